import PyProof.Rows.All
import Wide.All
import OpenK.AllK
import Wide.FinOn
import HandS.ForMost
import HandS.Wide
import HandS.Style
import HandS.TupAny
import PyProof.ReprRoads
import HandS.AnyAll
import HandS.EndTab
import HandS.FStrTup
import HandS.GenOver
import HandS.SetFor
import HandS.SetTxt0
import HandS.Strs
import PyProof.DictCopy
import HandS.Walk
import KE.GoesMore
import PyProof.GenCompT
import PyProof.WalksPairs
import PyProof.TupleOfGen
import PyProof.TupleOfSeq
import KE.KDictSum
import HandS.More
import HandS.Conv
import KE.DataMinMax
import KE.DataFind
import HandS.IsInst
import KE.DatumOrd
import KE.SortData
import KE.SortCalls
import KE.LtData
import KE.KSortTup
import HandS.Deep
import PySem.Challenge.RW_crossundo_k17_whole_fewest_changes
set_option Elab.async false
set_option linter.all false
set_option maxRecDepth 100000
set_option maxHeartbeats 4000000
namespace Cu
open PySem PySem.Spec PyProof.Rows L2
/-- all but the object at a is as it was -/
def Upto (a : Addr) (H H' : Hp) : Prop := ∀ b o, b ≠ a → H b = some o → H' b = some o
theorem Upto.refl (a : Addr) (H : Hp) : Upto a H H := fun _ _ _ e => e
theorem Upto.trans {a : Addr} {H H1 H2 : Hp} (x : Upto a H H1) (y : Upto a H1 H2) : Upto a H H2 := fun b o n e => y b o n (x b o n e)
theorem Upto.of {a : Addr} {H H' : Hp} (x : Same H H') : Upto a H H' := fun b o _ e => x b o e
theorem Upto.upd {a : Addr} {H : Hp} {o : HO} : Upto a H (upd H a o) := fun b u n e => by rw [upd_ne n]; exact e
theorem same_upd {H : Hp} {p : Addr} {o : HO} (h : H p = none) : Same H (upd H p o) := fun b x e => by
  rw [upd_ne (ne_of_none e h)]
  exact e
theorem Upto.new {a p : Addr} {H : Hp} {o : HO} (h : H p = none) : Upto a H (L2.upd H p o) := .of (same_upd h)
theorem Upto.free {a l : Addr} {H H1 : Hp} (u : Upto a H H1) (n : l ≠ a) (e : H1 l = none) : H l = none := by
  cases h : H l with
  | none => rfl
  | some o =>
    rw [u l o n h] at e
    cases e
theorem Upto.put {a l : Addr} {H H2 : Hp} {o : HO} (u : Upto a H H2) (e : H l = none) : Upto a H (L2.upd H2 l o) := fun b x n eb => by
  rw [upd_ne (ne_of_none eb e)]
  exact u b x n eb
theorem Hand.ne {H : Hp} {a l : Addr} (h : ∃ o, H a = some o) (e : H l = none) : l ≠ a := fun z => by
  obtain ⟨o, eo⟩ := h
  rw [z, eo] at e
  cases e
theorem iffF {b : Bool} {A B : Prop} (h : b = false) (hB : B) : if b = true then A else B := by
  rw [h, if_neg Bool.false_ne_true]
  exact hB
theorem iffT {b : Bool} {A B : Prop} (h : b = true) (hA : A) : if b = true then A else B := by
  rw [h, if_pos rfl]
  exact hA
theorem ne_self (x : V) : (!decide (x = x)) = false := by
  rw [decide_eq_true rfl]
  rfl
theorem Upto.list {a l : Addr} {H H' : Hp} {xs : List V} (u : Upto a H H') (n : l ≠ a) (e : H l = some (.lst xs)) : H' l = some (.lst xs) := u l _ n e
/-- the hand: three ints; the third counts at most n draws -/
def Hand (H : Hp) (a : Addr) (n : Nat) : Prop := ∃ g x c : Int, H a = some (.lst [.int g, .int x, .int c]) ∧ 0 ≤ g ∧ g < 2 ^ 600 ∧ 0 ≤ x ∧ x < 2147483647 ∧ 0 ≤ c ∧ c ≤ n
theorem Hand.mono {H : Hp} {a : Addr} {n m : Nat} (h : Hand H a n) (l : n ≤ m) : Hand H a m := by
  obtain ⟨g, x, c, h1, h2, h3, h4, h5, h6, h7⟩ := h
  exact ⟨g, x, c, h1, h2, h3, h4, h5, h6, by omega⟩
theorem Hand.same {H H' : Hp} {a : Addr} {n : Nat} (h : Hand H a n) (s : Same H H') : Hand H' a n := by
  obtain ⟨g, x, c, h1, h2⟩ := h
  exact ⟨g, x, c, s _ _ h1, h2⟩
theorem Hand.at {H H' : Hp} {a : Addr} {n : Nat} (h : Hand H a n) (s : H' a = H a) : Hand H' a n := by
  obtain ⟨g, x, c, h1, h2⟩ := h
  exact ⟨g, x, c, s.trans h1, h2⟩
theorem Hand.some {H : Hp} {a : Addr} {n : Nat} (h : Hand H a n) : ∃ o, H a = some o := by
  obtain ⟨g, x, c, h1, h2⟩ := h
  exact ⟨_, h1⟩
theorem Hand.new {H : Hp} {a p : Addr} {o : HO} {n : Nat} (h : Hand H a n) (e : H p = none) : Hand (L2.upd H p o) a n := h.same (same_upd e)
section
variable {X : Cx}
/-- data that repr can show -/
structure Shw (d : PyData) : Prop where
  show_ : d.showable = true
  dict : d.hasDict = false
  dep : d.depth ≤ 60
  len : d.shown.length ≤ sizeLine
/-- repr(x) of data: None, bools, ints, texts, lists, tuples -/
def rReprD (K : PySem.W.Frag) : List V → Hp → VK → Prop := fun xs H Q => ∃ x d, xs = [x] ∧ Dp K H x d ∧ Shw d ∧ Q (.str d.shown) H
theorem call_reprD (hg : X.A.guards = some []) (hu : X.A.units + 64 < cLine) : CallR X (.builtin "repr") (rReprD X.K) := by
  intro pins s σ H xs us Q I r h
  obtain ⟨x, d, rfl, hd, ⟨hs, hn, h6, hz⟩, q⟩ := h
  obtain ⟨u, rfl, ru⟩ := vals1 r
  obtain ⟨as, rd⟩ := Dp.reads I d x u hd ru
  cases hd with
  | non =>
    cases ru
    exact PySem.P.repr_of_none ⟨.str _, H, I.tok _, ⟨_, rfl⟩, q⟩
  | bl b =>
    cases ru
    cases b
    · exact PySem.P.repr_of_bool ⟨.str _, H, I.tok _, ⟨_, rfl⟩, q⟩
    · exact PySem.P.repr_of_bool ⟨.str _, H, I.tok _, ⟨_, rfl⟩, q⟩
  | int i =>
    obtain ⟨t, rfl⟩ := ru
    refine PySem.P.repr_of_int ?_ ⟨.str _, H, I.tok _, ⟨_, rfl⟩, q⟩
    exact of_decide_eq_true hs
  | str y =>
    obtain ⟨t, rfl⟩ := ru
    exact PySem.P.repr_of_str ⟨.str _, H, I.tok _, ⟨_, rfl⟩, q⟩ hz
  | lst sq all =>
    obtain rfl : u = _ := ru
    exact repr_of_reads' rd hs (fun z => by rw [hn] at z; cases z) hg (by omega) (fun _ _ e => e) (fun h' t tk k => ⟨.str _, H, I.kept k, ⟨t, rfl⟩, q⟩) hz
  | tup sq all =>
    obtain rfl : u = _ := ru
    exact repr_of_reads' rd hs (fun z => by rw [hn] at z; cases z) hg (by omega) (fun _ _ e => e) (fun h' t tk k => ⟨.str _, H, I.kept k, ⟨t, rfl⟩, q⟩) hz
end
/-- a def's promise where no repr is under way -/
structure FnG (P : Program) (w : World) (K : PySem.W.Frag) (mg : Str → Option Value) (base : Heap) (CX : CXT) (k : Nat) (f : Addr) (fd : FuncData) (ps : List Str) (sp : Sp) : Prop where
  len : ∀ vs H Q E, sp vs H Q E → vs.length = ps.length
  run : ∀ (A : Around) (outer : List Env) (s : Shared) (H : Hp) (args : Args) (us : List Value) (vs : List V) (Q : VK) (E : XK), A.guards = some [] → Room k A → Env0 P w K mg base A outer s H →
    BindsTo s fd args (ps.zip us) → Vals vs us → sp vs H Q E → codeAny (model P w) A (.call (.ref f) args) (CR CX outer P w H s Q E) s
theorem FnG.of {P : Program} {w : World} {K : PySem.W.Frag} {mg : Str → Option Value} {base : Heap} {CX : CXT} {k : Nat} {f : Addr} {fd : FuncData} {ps : List Str} {sp : Sp} (F : FnOk P w K mg base CX k f fd ps sp) : FnG P w K mg base CX k f fd ps sp :=
  ⟨F.len, fun A outer s H args us vs Q E _ => F.run A outer s H args us vs Q E⟩
theorem FnG.mono {P : Program} {w : World} {K : PySem.W.Frag} {mg : Str → Option Value} {base : Heap} {CX : CXT} {j k : Nat} {f : Addr} {fd : FuncData} {ps : List Str} {sp : Sp} (F : FnG P w K mg base CX j f fd ps sp) (h : j ≤ k) : FnG P w K mg base CX k f fd ps sp :=
  ⟨F.len, fun A outer s H args us vs Q E g hr => F.run A outer s H args us vs Q E g (hr.mono h)⟩
section
variable {X : Cx} {CX : CXT} {k : Nat} {f : Addr} {fd : FuncData} {ps : List Str} {sp : Sp} {dvs : List V} {ds : List Value} {E : XK} {x : Str} {p pos : Pos} {e : Expr} {es : List Expr} {t : TA}
theorem pe_callG (F : FnG X.prog X.w X.K X.mg X.base CX k f fd ps sp) (gd : X.A.guards = some []) (hr : Room k X.A) (hg : Gl X x) (hm : X.mg x = some (.ref f)) (hk : PySem.W.keepIn X.K (.ref f) = true) (hb : Binds X.K fd ps ds) (hd : Vals dvs ds) (hx : Passes CX X E)
    (ha : PA X (e :: es) t) (hdb : (x == ("__debug__" : Str)) = false := by decide) (he : starEach (e :: es) X.env = (false, eval e X.env) :: starEach es X.env := by rfl) (hpl : (backTo pos (starEach es X.env)).any (·.1) = false := by rfl) :
    PE X (.Call (.Name x p) (e :: es) [] pos) (tCall sp dvs E t) := by
  constructor
  intro pins s σ H Q I h
  apply wpAny_Call_Name_kw
  apply ld_glob I hg hm _ hdb
  refine PySem.W.callWith_K (h₀ := X.base) I.ok.mod.kin hk (thn (ha.run pos pins s σ H _ I h) ?_) he hpl
  rintro us s1 ⟨vs, H1, I1, r, q⟩
  refine ⟨I1.kIn, ?_⟩
  have rr := r.append hd
  have ll : (us ++ ds).length = ps.length := rr.length.symm.trans (F.len _ _ _ _ q)
  apply wpAny_call
  refine codeAny_mono (F.run X.A X.stack s1 H1 ⟨us, []⟩ (us ++ ds) (vs ++ dvs) Q E gd hr I1.env0 (hb s1 us I1.kIn ll) rr q) ?_
  intro z s2 hz
  match z, hz with
  | .error er, hz => exact hx pins σ H1 s1 er s2 I1 hz
  | .ok (.ret u), hz => exact I1.after hz
  | .ok .next, hz => exact hz.elim
  | .ok .brk, hz => exact hz.elim
  | .ok .cont, hz => exact hz.elim
end

/-- a def by its body, where no repr is under way -/
theorem okG {P : Program} {w : World} {K : PySem.W.Frag} {mg : Str → Option Value} {base : Heap} {x qual : Str} {st : Stmt} {f : Addr} {fd : FuncData} {N ps : List Str} {k : Nat} {sp : Sp} (F : Fun K x qual st f fd) (S : FnScope N ps (defScope st)) (len : ∀ vs H Q E, sp vs H Q E → vs.length = ps.length)
    (hbody : ∀ (cdv : Value) (A : Around) (outer : List Env) (s : Shared) (H : Hp) (vs : List V) (Q : VK) (E : XK), (A.deeper (envOfC qual (defScope st) s.heap.objs.size f cdv)).guards = some [] → Room k (A.deeper (envOfC qual (defScope st) s.heap.objs.size f cdv)) → sp vs H Q E →
      ∃ t, PSs (cxOf CX0 P w K mg base N qual (defScope st) f cdv A outer s H E).nox (defBody st) t ∧ t { nx := fun _ H' => Q .non H', rt := Q } (start N vs) H) : FnG P w K mg base CX0 (k + 1) f fd ps sp := by
  obtain ⟨oc, od, kV, doc, pm, an, cdv, ct, osl, rfl, lk, hcd⟩ := F.ex
  constructor
  · exact len
  intro A outer s H args us vs Q E gd hr e0 hb r hsp
  have keep : ∀ b o, base.get? b = some o → s.heap.get? b = some o := fun b o e => (e0.bs b o e).1
  have kin := e0.mod.kin.keeps keep
  have par : ∀ y ∈ ps.zip us, (defScope st).names.lookup y.1 = some .local ∨ ((defScope st).names.lookup y.1 = some .cell ∧ ((cellsFrom (s.heap.objs.size + 1) (defScope st).names []).lookup y.1).isSome = true) := by
    intro y hy
    have mem : y.1 ∈ ps := (List.of_mem_zip (a := y.1) (b := y.2) hy).1
    cases S.par y.1 mem with
    | inl q => exact Or.inl q
    | inr q => exact Or.inr (And.intro q (PySem.W.cellsFrom_some _ _ _ (Or.inl q)))
  apply codeAny_call_function hr.depth (kin _ _ lk) rfl S.co S.gen rfl (PySem.W.codeRec_of kin hcd)
  apply hb
  apply wpAny_newFunctionEnv_cells S.kind par
  rintro env rfl s1 ic
  refine And.intro ((e0.mod.nolimit.keeps keep).keeps ic.toInCall.keep) (codeAny_func ?_)
  obtain ⟨t, ht, hq⟩ := hbody cdv A outer s H vs Q E gd (hr.deeper _) hsp
  have I0 := inv_start (CX := CX0) (qual := qual) (f := f) (cd := cdv) (E := E) S hr.hd e0 (len _ _ _ _ hsp) r ic
  refine wpAny_mono (ht.nox.run [] s1 _ H _ I0 hq) ?_ (fun _ _ z => z)
  intro fl s' hs
  match fl, hs with
  | .ret u, ⟨v, σ', H', J, rv, q⟩ => exact ⟨v, H', J.os, J.bare, J.base, J.hok, rv, q⟩
  | .next, ⟨σ', H', J, q⟩ => exact ⟨V.non, H', J.os, J.bare, J.base, J.hok, rfl, q⟩
  | .brk, ⟨_, _, _, q⟩ => exact q.elim
  | .cont, ⟨_, _, _, q⟩ => exact q.elim

section
variable {P : Program} {w : World} {K : PySem.W.Frag} {mg mb : Str → Option Value} {k : Nat} {fa a : Addr} {tb : List (Addr × Addr)} {fd : FuncData} {x : Str} {sp : Sp} {s1 : Shared} {vs : List Value} {ns : List Int}
/-- what is tracked when the law begins: its script s (unless the top owns it) and the tables -/
structure Begin (K : PySem.W.Frag) (h : Heap) (tabs : List Addr) (a : Addr) (vs : List Value) (ns : List Int) (H : Hp) : Prop where
  tabAt : ∀ b ∈ tabs, H b = some (.tbl #[])
  tabIs : ∀ b ∈ tabs, h.get? b = some { cls := .none, data := .fields #[] }
  tabK : ∀ b ∈ tabs, K.lookup b = none
  seq : SqL K H a (ns.map V.int)
  other : ∀ b, b ∉ tabs → b ≠ a → H b = none
  script : a ∉ tabs → H a = none ∨ (K.lookup a = none ∧ H a = some (.frz { cls := .type "list", data := .seq vs.toArray } (.lst (ns.map V.int))))
theorem Begin.kinds {H : Hp} {tabs : List Addr} {h : Heap} (B : Begin K h tabs a vs ns H) (b : Addr) : H b = none ∨ b ∈ tabs ∨ (b = a ∧ K.lookup a = none ∧ H b = some (.frz { cls := .type "list", data := .seq vs.toArray } (.lst (ns.map V.int)))) := by
  by_cases m : b ∈ tabs
  · exact .inr (.inl m)
  · by_cases e : b = a
    · subst e
      rcases B.script m with z | ⟨z1, z2⟩
      · exact .inl z
      · exact .inr (.inr ⟨rfl, z1, z2⟩)
    · exact .inl (B.other b m e)
/-- an object that is neither a table nor the script is not tracked -/
theorem Begin.out {H : Hp} {tabs : List Addr} {h : Heap} (B : Begin K h tabs a vs ns H) (ha : h.get? a = some { cls := .type "list", data := .seq vs.toArray }) {b : Addr} {o : Obj} (e : h.get? b = some o)
    (n1 : ∀ us n, o.data ≠ .seq us n) (n2 : o.data ≠ .fields #[]) : H b = none := by
  rcases B.kinds b with z | z | ⟨z, _⟩
  · exact z
  · have q := e.symm.trans (B.tabIs b z)
    cases q
    exact absurd rfl n2
  · subst z
    have q := e.symm.trans ha
    cases q
    exact absurd rfl (n1 _ _)
theorem Begin.run {H : Hp} (B : Begin K s1.heap (tb.map (·.2)) a vs ns H) (hok : HOk P w H s1.heap) (KX : K.In s1.heap) (hns : s1.heap.Ns mainGlobals mg) (hb : s1.heap.Ns builtinsNs mb) (hbb : ∀ x : Str, x ≠ "__name__" → mb x = bootBuiltins x)
    (hlim : s1.heap.NoLimit) (hg : s1.gens = #[]) (cds : ∀ p ∈ tb, PySem.W.CodeHd s1.heap p.1 p.2)
    (hbm : ∃ (bm : Addr) (ob : Obj), mg "__builtins__" = some (.ref bm) ∧ bm ≠ builtinsNs ∧ s1.heap.get? bm = some ob ∧ ob.cls = .type "module" ∧ ob.dict = some builtinsNs ∧ ob.data = .plain)
    (ha : s1.heap.get? a = some { cls := .type "list", data := .seq vs.toArray }) (hr : Room k callerA)
    (hsy : ∃ mm, s1.heap.Ns sysModules mm) (F : ∀ base : Heap, K.In base → base.Ns mainGlobals mg → (∀ p ∈ tb, GxR.TabB base mg p.1 p.2) → (∃ o, base.get? sysModules = some o) → FnG P w K mg base CX0 k fa fd [x] sp)
    (bind : ∀ (s : Shared) (u : Value), BindsTo s fd ⟨[u], []⟩ [(x, u)]) (want : sp [.ref a] H (fun v _ => v = .bl true) fun _ _ _ => False) :
    codeAny (model P w) callerA (.call (.ref fa) ⟨[.ref a], []⟩) (fun r s' => r = .ok (.ret (.bool true)) ∧ OldK s1.heap s'.heap ∧ s'.os = s1.os ∧ AllBare s'.gens) s1 := by
  have out := fun {b : Addr} {o : Obj} => B.out (b := b) (o := o) ha
  have low : ∀ {b : Addr} {o : Obj}, s1.heap.get? b = some o → H b = none → (hidT s1.heap H).get? b = some o := fun e n => hidT_get e n
  have lowNs : ∀ {b : Addr} {m : Str → Option Value}, s1.heap.Ns b m → (hidT s1.heap H).Ns b m := by
    rintro b m ⟨o, es, ep, e, d, r⟩
    refine ⟨o, es, ep, low e (out e ?_ ?_), d, r⟩
    · intro us n z
      cases d.symm.trans z
    · intro z
      cases d.symm.trans z
  have lowK : K.In (hidT s1.heap H) := by
    intro b o e
    refine low (KX b o e) ?_
    rcases B.kinds b with z | z | ⟨z1, z2, _⟩
    · exact z
    · cases (B.tabK b z).symm.trans e
    · subst z1
      cases z2.symm.trans e
  have lim : (hidT s1.heap H).NoLimit := by
    obtain ⟨mc, q1, q2⟩ := hlim
    exact ⟨mc, lowNs q1, q2⟩
  have tabs : ∀ p ∈ tb, GxR.TabB (hidT s1.heap H) mg p.1 p.2 := by
    intro p hp
    have isT := B.tabIs p.2 (List.mem_map.mpr ⟨p, hp, rfl⟩)
    constructor
    · obtain ⟨o, us, file, tf, flags, tg, inF, text, tt, e1, r1, r2, r3, rest⟩ := cds p hp
      refine ⟨o, us, file, tf, flags, tg, inF, text, tt, low e1 (out e1 ?_ ?_), r1, r2, r3, rest⟩
      · intro us n z
        cases r2.symm.trans z
      · intro z
        have z' := r2.symm.trans z
        cases z'
        simp at r3
    · obtain ⟨bm, ob, b1, b2, b3, b4, b5, b6⟩ := hbm
      refine ⟨bm, ob, b1, b2, ?_, ?_, low b3 (out b3 ?_ ?_), b4, b5, b6⟩
      · intro q
        obtain ⟨o, es, ep, e, hd, _⟩ := hns
        rw [← q, b3] at e
        cases e
        cases b6.symm.trans hd
      · intro q
        rw [q, isT] at b3
        cases b3
        cases b6
      · intro us n z
        cases b6.symm.trans z
      · intro z
        cases b6.symm.trans z
    · intro z
      obtain ⟨o, es, ep, e, hd, _⟩ := hns
      rw [z, isT] at e
      cases e
      cases hd
  have md : L2.Mod K mg (hidT s1.heap H) := ⟨lowK, lowNs hns, ⟨mb, lowNs hb, hbb⟩, lim⟩
  have env : Env0 P w K mg (hidT s1.heap H) callerA [] s1 H := by
    refine ⟨rfl, md, fun b o e => of_hidT e, Nat.le_of_eq (hidT_size _ _), trivial, ?_, hok, .of_eq hg⟩
    intro b z
    cases z
  have sysb : ∃ o, (hidT s1.heap H).get? sysModules = some o := by
    obtain ⟨mm, z⟩ := hsy
    obtain ⟨o, _, _, e, _⟩ := lowNs z
    exact ⟨o, e⟩
  have go := (F _ lowK (lowNs hns) tabs sysb).run callerA [] s1 H ⟨[.ref a], []⟩ [.ref a] [.ref a] _ _ rfl hr env (bind s1 (.ref a)) (.cons rfl .nil) want
  refine codeAny_mono go ?_
  intro r s' h
  match r, h with
  | .error e, h => exact False.elim h
  | .ok .next, h => exact h.elim
  | .ok .brk, h => exact h.elim
  | .ok .cont, h => exact h.elim
  | .ok (.ret u), ⟨v, H', os, bare, un, hok', rel, q⟩ =>
    cases q
    cases rel
    have stay : ∀ b o, b ∉ tb.map (·.2) → s1.heap.get? b = some o → s'.heap.get? b = some o := by
      intro b o nb e
      rcases B.kinds b with z | z | ⟨z1, _, z⟩
      · exact un.keep b o e z (by intro m; cases m) (by intro m; cases m)
      · exact absurd z nb
      · have e1 := (hok b _ z).1
        have e2 := (hok' b _ (un.frzs b _ _ z)).1
        rw [e] at e1
        cases e1
        exact e2
    have more : ∀ p ∈ tb, ∃ us : Array Value, s'.heap.get? p.2 = some { cls := .none, data := .fields us } := by
      intro p hp
      obtain ⟨us, z⟩ := un.tbls p.2 #[] (B.tabAt _ (List.mem_map.mpr ⟨p, hp, rfl⟩))
      exact ⟨_, hok' p.2 _ z⟩
    refine ⟨rfl, ⟨?_, ?_⟩, os, bare⟩
    · intro b o e
      by_cases m : b ∈ tb.map (·.2)
      · have isT := B.tabIs b m
        obtain ⟨p, hp, rfl⟩ := List.mem_map.mp m
        obtain ⟨us, hu⟩ := more p hp
        rw [isT] at e
        cases e
        refine .inr (.inl ⟨((cds p hp).tab isT).isCodeTable, rfl, #[], us, rfl, ?_⟩)
        rw [Array.empty_append]
        exact hu
      · exact .inl (stay b o m e)
    · intro b o e
      by_cases m : b ∈ tb.map (·.2)
      · obtain ⟨p, hp, rfl⟩ := List.mem_map.mp m
        obtain ⟨us, hu⟩ := more p hp
        exact ⟨_, hu⟩
      · exact ⟨o, stay b o m e⟩
/-- such a heap there is -/
theorem begin_ex (tabs : List Addr) (hT : ∀ b ∈ tabs, s1.heap.get? b = some { cls := .none, data := .fields #[] }) (nT : ∀ b ∈ tabs, K.lookup b = none) (KX : K.In s1.heap)
    (ha : s1.heap.get? a = some { cls := .type "list", data := .seq vs.toArray }) (hi : IntsAre vs ns) (hl : ns.length ≤ sizeLine) : ∃ H, Begin K s1.heap tabs a vs ns H ∧ HOk P w H s1.heap := by
  have na : a ∉ tabs := by
    intro m
    cases (hT a m).symm.trans ha
  by_cases hk : K.lookup a = none
  · let H : Hp := fun b => if b ∈ tabs then some (.tbl #[]) else if b = a then some (.frz { cls := .type "list", data := .seq vs.toArray } (.lst (ns.map V.int))) else none
    have atT : ∀ b ∈ tabs, H b = some (.tbl #[]) := fun b m => if_pos m
    have atA : H a = some (.frz { cls := .type "list", data := .seq vs.toArray } (.lst (ns.map V.int))) := (if_neg na).trans (if_pos rfl)
    have atN : ∀ b, b ∉ tabs → b ≠ a → H b = none := fun b m e => (if_neg m).trans (if_neg e)
    refine ⟨H, ⟨atT, hT, nT, .inl (.inr ⟨_, atA⟩), atN, fun _ => .inr ⟨hk, atA⟩⟩, ?_⟩
    intro b u z
    by_cases m : b ∈ tabs
    · cases (atT b m).symm.trans z
      exact hT b m
    · by_cases e : b = a
      · subst e
        cases atA.symm.trans z
        refine ⟨ha, ?_, vs, _, vals_ints hi, ha⟩
        rw [List.length_map]
        exact hl
      · cases (atN b m e).symm.trans z
  · obtain ⟨o, ho⟩ := Option.ne_none_iff_exists'.mp hk
    have e := KX a o ho
    rw [ha] at e
    cases e
    let H : Hp := fun b => if b ∈ tabs then some (.tbl #[]) else none
    have atT : ∀ b ∈ tabs, H b = some (.tbl #[]) := fun b m => if_pos m
    have atN : ∀ b, b ∉ tabs → H b = none := fun b m => if_neg m
    refine ⟨H, ⟨atT, hT, nT, .inr ⟨_, vs.toArray, _, ho, rfl, rfl, rfl, ?_, ?_⟩, fun b m _ => atN b m, fun _ => .inl (atN a na)⟩, ?_⟩
    · rw [List.size_toArray, hi.length]
      exact hl
    · simpa using vals_ints hi
    · intro b u z
      by_cases m : b ∈ tabs
      · cases (atT b m).symm.trans z
        exact hT b m
      · cases (atN b m).symm.trans z
end
/-- all that the end of a law asks of its promise -/
def LawG (l : PySem.W.OpenLaw) (w : World) (K : PySem.W.Frag) (k n : Nat) (x : Str) (mg : Str → Option Value) (fa : Addr) (h : Heap) : Prop :=
  ∃ (fd : FuncData) (tb : List (Addr × Addr)) (sp : Sp), (∀ p ∈ tb, h.get? p.2 = some { cls := .none, data := .fields #[] }) ∧ (∀ p ∈ tb, K.lookup p.2 = none) ∧ (∀ p ∈ tb, PySem.W.CodeHd h p.1 p.2) ∧
    (∀ (s : Shared) (u : Value), BindsTo s fd ⟨[u], []⟩ [(x, u)]) ∧
    (∀ (H : Hp) (a : Addr) (ns : List Int), ns.length ≤ n → (∀ p ∈ tb, H p.2 = some (.tbl #[])) → SqL K H a (ns.map V.int) → sp [.ref a] H (fun v _ => v = .bl true) fun _ _ _ => False) ∧
    ∀ base : Heap, K.In base → base.Ns mainGlobals mg → (∀ p ∈ tb, GxR.TabB base mg p.1 p.2) → (∃ o, base.get? sysModules = some o) → FnG l.prog w K mg base CX0 k fa fd [x] sp
theorem walkG {l : PySem.W.OpenLaw} {n k : Nat} {q : Program} {loose : List Str} {XP : (Str → Option Value) → Heap → Prop} {YP : World → Heap → Prop} {d : DefRec} {K : Params → PySem.W.Frag} {x : Str}
    (hn : l.most = some n) (hn2 : n ≤ sizeLine) (hdf : d.params.defaults = []) (hr : Room k callerA) (hY : ∀ (w : World) (h : Heap), YP w h → (K w.params).In h)
    (noImp : importsNone q = true) (F : ∀ (w : World) (mg mb : Str → Option Value) (mean : ExcName → Option Value) (fa : Addr) (h : Heap), Top q (PySem.W.looseW q loose) mean mg mb h → YP w h → (K w.params).In h → h.Ns mainGlobals mg → mg d.name = some (.ref fa) → LawG l w (K w.params) k n x mg fa h) :
    PySem.W.WalkO q loose XP YP l.row.toRowW d [] (fun f vs => PySem.call f vs) := by
  apply Att.attach_call hn hdf
  intro w s0 s1 mg mb fa o pm cd doc a vs ns G Y ho hd hcd hmg hobj hints hlen hg
  have KX := hY w _ Y
  obtain ⟨fd, tb, sp, hT, nT, C, hb, hsp, hF⟩ := F w mg mb _ fa _ G.T Y KX G.T.g hmg
  have hT' : ∀ b ∈ tb.map (·.2), s1.heap.get? b = some { cls := .none, data := .fields #[] } := by
    intro b m
    obtain ⟨p, hp, rfl⟩ := List.mem_map.mp m
    exact hT p hp
  have nT' : ∀ b ∈ tb.map (·.2), (K w.params).lookup b = none := by
    intro b m
    obtain ⟨p, hp, rfl⟩ := List.mem_map.mp m
    exact nT p hp
  obtain ⟨H, B, hok⟩ := begin_ex (P := l.prog) (w := w) (tb.map (·.2)) hT' nT' KX hobj hints (Nat.le_trans hlen hn2)
  exact B.run hok KX G.T.g G.T.b G.T.builtins G.T.nolimit hg C G.T.bmain hobj hr (let ⟨mm, z, _⟩ := (G.T.seer noImp).mods; ⟨mm, z⟩) hF hb (hsp H a ns hlen (fun p hp => B.tabAt _ (List.mem_map.mpr ⟨p, hp, rfl⟩)) B.seq)
/-- a if t else b, both of the kind D: what follows is shown once -/
theorem ifx {b : Bool} {ta : TE} {Q : VK} {σ : L2.St} {H : Hp} {v : V} (D : V → Prop) (hA : b = true → (∀ v, D v → Q v H) → ta σ H Q) (hv : D v) (all : ∀ v, D v → Q v H) : if b = true then ta σ H Q else tC v σ H Q := by
  by_cases h : b = true
  · rw [if_pos h]
    exact hA h all
  · rw [if_neg h]
    exact all v hv
theorem at_of {α : Type} {xs : List α} {i : Int} (h0 : 0 ≤ i) (h1 : i < xs.length) : ∃ v, xs[i.toNat]? = some v ∧ atI xs i = some v := by
  have hj : i.toNat < xs.length := by omega
  refine ⟨xs[i.toNat], List.getElem?_eq_getElem hj, ?_⟩
  have e := atI_nat (List.getElem?_eq_getElem hj)
  rwa [Int.toNat_of_nonneg h0] at e
theorem b01 (b : Bool) : -(2 ^ 64) < (if b = true then (1 : Int) else 0) ∧ (if b = true then (1 : Int) else 0) < 2 ^ 64 := by cases b <;> decide
theorem b01_mul (b : Bool) {x B : Int} (h0 : 0 ≤ x) (h1 : x < B) : 0 ≤ x * (if b = true then (1 : Int) else 0) ∧ x * (if b = true then (1 : Int) else 0) < B := by
  cases b
  · rw [if_neg Bool.false_ne_true, Int.mul_zero]
    omega
  · rw [if_pos rfl, Int.mul_one]
    omega
/-- a comprehension without a test -/
theorem lc_yes {σ : L2.St} {H : Hp} {A B : Hp → Prop} (h : A H) : tYes σ H fun b H3 => if b = true then A H3 else B H3 := by
  show (if true = true then A H else B H)
  rw [if_pos rfl]
  exact h
theorem same_put {H H2 : Hp} {l : Addr} {o : HO} (u : Same H H2) (e : H l = none) : Same H (L2.upd H2 l o) := fun b x eb => by
  rw [upd_ne (ne_of_none eb e)]
  exact u b x eb
theorem same_upto {a : Addr} {H H1 H2 : Hp} (s : Same H H1) (u : Upto a H1 H2) (e : H a = none) : Same H H2 := fun b x eb => u b x (ne_of_none eb e) (s b x eb)
end Cu

namespace Cu
open PySem PySem.Spec PyProof.Rows L2
/-! ### texts -/
abbrev tl (x : Str) : List Nat := x.cps.toList
def mkS (l : List Nat) : Str := ⟨l.toArray⟩
theorem tl_mk (l : List Nat) : tl (mkS l) = l := List.toList_toArray
theorem tl_len (x : Str) : (tl x).length = x.length := Array.length_toList
theorem ext_t {x y : Str} (h : tl x = tl y) : x = y := PyProof.Rows.ext_toList h
theorem tl_app (x y : Str) : tl (x ++ y) = tl x ++ tl y := TL.tl_append x y
theorem cut_both (z : Str) (i j : Nat) : tl (cutS z (some (i : Int)) (some (j : Int))) = ((tl z).drop i).take (j - i) := by
  show ((z.cps.toList.drop (HT.sIx z.length 0 (some (i : Int)))).take (HT.sIx z.length z.length (some (j : Int)) - HT.sIx z.length 0 (some (i : Int)))).toArray.toList = (z.cps.toList.drop i).take (j - i)
  rw [HT.sIx_nat, HT.sIx_nat, List.toList_toArray]
  have hl : z.cps.toList.length = z.length := Array.length_toList
  by_cases h : i ≤ z.length
  · rw [Nat.min_eq_left h]
    by_cases h2 : j ≤ z.length
    · rw [Nat.min_eq_left h2]
    · rw [Nat.min_eq_right (by omega), List.take_of_length_le (by rw [List.length_drop]; omega), List.take_of_length_le (by rw [List.length_drop]; omega)]
  · rw [Nat.min_eq_right (show z.length ≤ i by omega), List.drop_eq_nil_of_le (show z.cps.toList.length ≤ z.length by omega), List.drop_eq_nil_of_le (show z.cps.toList.length ≤ i by omega), List.take_nil, List.take_nil]
theorem cut_left (z : Str) (j : Nat) : tl (cutS z none (some (j : Int))) = (tl z).take j := by
  show ((z.cps.toList.drop (HT.sIx z.length 0 none)).take (HT.sIx z.length z.length (some (j : Int)) - HT.sIx z.length 0 none)).toArray.toList = z.cps.toList.take j
  rw [HT.sIx_nat, HT.sIx_none, List.toList_toArray, List.drop_zero, Nat.sub_zero]
  have hl : z.cps.toList.length = z.length := Array.length_toList
  by_cases h2 : j ≤ z.length
  · rw [Nat.min_eq_left h2]
  · rw [Nat.min_eq_right (by omega), List.take_of_length_le (by omega), List.take_of_length_le (by omega)]
theorem cut_right (z : Str) (i : Nat) : tl (cutS z (some (i : Int)) none) = (tl z).drop i := by
  show ((z.cps.toList.drop (HT.sIx z.length 0 (some (i : Int)))).take (HT.sIx z.length z.length none - HT.sIx z.length 0 (some (i : Int)))).toArray.toList = z.cps.toList.drop i
  rw [HT.sIx_nat, HT.sIx_none, List.toList_toArray]
  have hl : z.cps.toList.length = z.length := Array.length_toList
  by_cases h : i ≤ z.length
  · rw [Nat.min_eq_left h, List.take_of_length_le (by rw [List.length_drop]; omega)]
  · rw [Nat.min_eq_right (by omega), List.drop_eq_nil_of_le (by omega), List.drop_eq_nil_of_le (by omega), List.take_nil]
/-- all signs are ASCII -/
def Asc (z : Str) : Prop := ∀ c ∈ tl z, c < 128
theorem asc_of {x : Str} {l : List Nat} (h : ∀ c ∈ tl x, c ∈ l) (k : ∀ c ∈ l, c < 128) : Asc x := fun c m => k c (h c m)
theorem joinL_nil : ∀ ys : List (List Nat), TL.joinL [] ys = ys.flatten
  | [] => rfl
  | [p] => by simp [TL.joinL]
  | p :: q :: r => by
    show p ++ ([] ++ TL.joinL [] (q :: r)) = _
    rw [joinL_nil (q :: r), List.nil_append, List.flatten_cons (l := p)]
/-- ''.join(ys) -/
theorem tl_join0 (ys : List Str) : tl (Txt.join (Str.ofString "") ys) = (ys.map tl).flatten := by
  have e := TL.tl_join (Str.ofString "") ys
  rw [← TL.join_eq] at e
  rw [show tl (Txt.join (Str.ofString "") ys) = TL.joinL (TL.tl (Str.ofString "")) (ys.map TL.tl) from e]
  exact joinL_nil _
/-! ### data that can be shown -/
structure Good (n k : Nat) (d : PyData) : Prop where
  len : d.shown.length ≤ n
  dep : d.depth ≤ k
  show_ : d.showable = true
  dict : d.hasDict = false
theorem Good.mono {n k n' k' : Nat} {d : PyData} (g : Good n k d) (hn : n ≤ n') (hk : k ≤ k') : Good n' k' d := ⟨Nat.le_trans g.len hn, Nat.le_trans g.dep hk, g.show_, g.dict⟩
theorem good_none {n k : Nat} (h : 4 ≤ n) : Good n k .none := ⟨Nat.le_trans (by decide +kernel) h, by simp [PyData.depth], by simp [PyData.showable], by simp [PyData.hasDict]⟩
theorem good_bool {n k : Nat} (b : Bool) (h : 5 ≤ n) : Good n k (.bool b) := ⟨Nat.le_trans (by cases b <;> decide +kernel) h, by simp [PyData.depth], by simp [PyData.showable], by simp [PyData.hasDict]⟩
theorem good_int {n k : Nat} {i : Int} (h : i.natAbs.log2 < 1920) (hn : 2000 ≤ n) : Good n k (.int i) := by
  refine ⟨?_, by simp [PyData.depth], by simp [PyData.showable, h], by simp [PyData.hasDict]⟩
  have e := int_text_length_le (k := 1920) (by decide) h
  simp only [PyData.shown]
  rw [PySem.ofString_length]
  omega
theorem good_str {n k : Nat} {z : Str} (h : Asc z) (hn : 10 * z.length + 2 ≤ n) : Good n k (.str z) := by
  refine ⟨?_, by simp [PyData.depth], by simp [PyData.showable], by simp [PyData.hasDict]⟩
  simp only [PyData.shown]
  exact Nat.le_trans (StrLaws.reprText_len z fun c m => Nat.lt_trans (h c m) (by decide)) hn
theorem piled_le {n : Nat} : ∀ ds : List PyData, (∀ d ∈ ds, d.shown.length ≤ n) → piled (PyData.shownAll ds) ≤ (n + 2) * ds.length
  | [], _ => by simp [PyData.shownAll, piled]
  | d :: r, h => by
    have h1 := h d List.mem_cons_self
    have h2 := piled_le r fun z m => h z (List.mem_cons_of_mem _ m)
    simp only [PyData.shownAll]
    rw [piled_cons, List.length_cons, Nat.mul_succ]
    omega
theorem list_text (ts : List Str) : (listText ts).length ≤ piled ts + 2 := by
  cases ts with
  | nil => decide +kernel
  | cons t r =>
    have e := textFrom_length_pos r 1 (("[" : Str) ++ (if (0 : Nat) > 0 then ", " else "" : String) ++ t) (by decide)
    have e2 : (("[" : Str) ++ (if (0 : Nat) > 0 then ", " else "" : String) ++ t).length = 1 + t.length := by
      rw [strLen_append, strLen_append]
      rfl
    show (textFrom 1 _ r ++ Str.ofString "]").length ≤ _
    rw [strLen_append, e, e2, piled_cons]
    have e3 : (Str.ofString "]").length = 1 := rfl
    omega
theorem all_of {n k : Nat} : ∀ ds : List PyData, (∀ d ∈ ds, Good n k d) → PyData.depthAll ds ≤ k ∧ PyData.showableAll ds = true ∧ PyData.hasDictAll ds = false
  | [], _ => by simp [PyData.depthAll, PyData.showableAll, PyData.hasDictAll]
  | d :: r, h => by
    obtain ⟨h1, h2, h3⟩ := all_of r fun z m => h z (List.mem_cons_of_mem _ m)
    have g := h d List.mem_cons_self
    have g2 := g.dep
    simp only [PyData.depthAll, PyData.showableAll, PyData.hasDictAll, g.show_, g.dict, h2, h3, Bool.and_self, Bool.or_self, and_self, and_true]
    omega
theorem good_list {n k m : Nat} {ds : List PyData} (h : ∀ d ∈ ds, Good n k d) (hm : (n + 2) * ds.length + 2 ≤ m) : Good m (k + 1) (.list ds) := by
  obtain ⟨h1, h2, h3⟩ := all_of ds h
  have p := piled_le ds fun d z => (h d z).len
  have t := list_text (PyData.shownAll ds)
  refine ⟨?_, ?_, ?_, ?_⟩
  · simp only [PyData.shown]
    omega
  · simp only [PyData.depth]
    omega
  · simp only [PyData.showable]
    exact h2
  · simp only [PyData.hasDict]
    exact h3
theorem good_tup {n k m : Nat} {ds : List PyData} (h : ∀ d ∈ ds, Good n k d) (hm : (n + 2) * ds.length + 2 ≤ m) : Good m (k + 1) (.tuple ds) := by
  obtain ⟨h1, h2, h3⟩ := all_of ds h
  have p := piled_le ds fun d z => (h d z).len
  have t := fmt_text (PyData.shownAll ds)
  refine ⟨?_, ?_, ?_, ?_⟩
  · simp only [PyData.shown]
    omega
  · simp only [PyData.depth]
    omega
  · simp only [PyData.showable]
    exact h2
  · simp only [PyData.hasDict]
    exact h3
theorem Good.shw {n k : Nat} {d : PyData} (g : Good n k d) (hn : n ≤ 16000000 := by decide) (hk : k ≤ 60 := by decide) : Shw d := ⟨g.show_, g.dict, Nat.le_trans g.dep hk, Nat.le_trans (Nat.le_trans g.len hn) (by decide)⟩
end Cu

namespace Cu
open PySem PySem.Spec PyProof.Rows L2
/-! ### generator expressions whose element changes nothing -/
/-- what xv gives when it is walked from the state s1: n items, the i-th as Pf says; its walk leans on no table -/
def Src (prog : Program) (w : World) (P : Addr) (s1 : Shared) (xv : Value) (n : Nat) (Pf : Nat → Value → Prop) : Prop :=
  ∀ (A : Around) (E : Value → Shared → Prop) (Q : Value → Shared → Prop),
    (∀ (o : Obj) (fp : List Addr) (go : Nat → Heap → Prop), (∀ A' : Around, A'.handled = none → Walks prog w A' s1.heap.objs.size fp [s1.heap.objs.size] n Pf go) → go 0 (s1.heap.push o) → (∀ b ∈ fp, b ≤ s1.heap.objs.size ∧ b ≠ P) →
      Q (.ref s1.heap.objs.size) { s1 with heap := s1.heap.push o }) → A.handled = none → wpAny (model prog w) A (pyIter xv) Q E s1
theorem src_str {prog : Program} {w : World} {P : Addr} {s1 : Shared} {a : Str} {t : Tok} (hP : P < s1.heap.objs.size) : Src prog w P s1 (.str a t) a.cps.size (SignAt a) := by
  intro A E Q h hh
  apply wpAny_pyIter_str
  intro o go W st
  apply h o _ go W st
  intro b hb
  rcases List.mem_cons.mp hb with rfl | z
  · exact ⟨Nat.le_refl _, fun e => Nat.lt_irrefl _ (e ▸ hP)⟩
  · cases z
/-- the element, evaluated in the generator's own frame: it changes nothing and gives what F says -/
def Calm (X : Cx) (P : Addr) (scope : Scope) (x : Str) (elt : Expr) (s1 : Shared) (Pf F : Nat → Value → Prop) : Prop :=
  ∀ (cenv : Env) (A' : Around) (E' : Value → Shared → Prop) (i : Nat) (v : Value) (s2 : Shared) (m2 : Str → Option Value), cenv.scope = scope → cenv.globals = X.env.globals → cenv.builtins = builtinsNs → cenv.cells = cloFrom X.env.cells scope.names [] →
    A'.handled = none → Pf i v → s2.heap.Ns cenv.locals m2 → m2 x = some v → (∀ b u, b ≠ P → s1.heap.get? b = some u → s2.heap.get? b = some u) →
    wpAny (model X.prog X.w) A' (eval elt cenv) (fun y s3 => F i y ∧ Keeps s2 s3) E' s2
/-- the generator g is ready to be walked -/
def Set_ (X : Cx) (pins : List (Addr × Obj)) (σ : L2.St) (H1 : Hp) (P : Addr) (n : Nat) (F : Nat → Value → Prop) (g : Addr) (s5 : Shared) : Prop :=
  ∃ (fp wr : List Addr) (G : Array GenState → Array GenState → Prop) (go : Nat → Shared → Prop), WalksS X.prog X.w X.A.in1 g fp wr G n F go ∧ go 0 s5 ∧
    ∀ s', Moved wr G s5 s' → ∃ H2, GxR.Tabbed P H1 H2 ∧ Inv X pins σ H2 s'
theorem walksS_imp {prog : Program} {w : World} {A : Around} {I : Addr} {fp wr : List Addr} {G : Array GenState → Array GenState → Prop} {n : Nat} {F F' : Nat → Value → Prop} {go : Nat → Shared → Prop} (W : WalksS prog w A I fp wr G n F go) (h : ∀ j y, F j y → F' j y) :
    WalksS prog w A I fp wr G n F' go where
  sub := W.sub
  grefl := W.grefl
  gtrans := W.gtrans
  frame := W.frame
  item := fun i s Q E hi st q => W.item i s Q E hi st fun v s' hv => q v s' (h i v hv)
  done := W.done
  self := W.self
section
variable {X : Cx} {pins : List (Addr × Obj)} {σ : L2.St} {H : Hp} {s : Shared}
theorem gen_make {c P : Addr} {elt iter : Expr} {x : Str} {px gpos : Pos} {scope : Scope} {te : TE} {k : Nat} {Q' : Value → Shared → Prop} {R : V → Hp → Prop}
    (hr : Room k X.A) (TB : GxR.TabB X.base X.mg c P) (hcode : X.env.code = .ref c) (S : GxR.GenS X.env scope x) (hi : PE X iter te) (hs : ∀ v, genFold iter X.env v = pure v) (I : Inv X pins σ H s)
    (h : te σ H fun v H1 => GxR.TabG H1 P ∧ R v H1)
    (src : ∀ v H1 s1 u, R v H1 → GxR.TabG H1 P → Inv X pins σ H1 s1 → RelV v u → P < s1.heap.objs.size → ∃ n Pf F, Src X.prog X.w P s1 u n Pf ∧ Calm X P scope x elt s1 Pf F ∧ ∀ g s5, Set_ X pins σ H1 P n F g s5 → Q' (.ref g) s5) :
    wpAny (model X.prog X.w) X.A (eval (.GeneratorExp elt [⟨.Name x px, iter, [], 0⟩] scope gpos) X.env) Q' X.xe s := by
  have dp : X.A.depth < recursionLimit := by
    have := hr.dp
    omega
  apply wpAny_GeneratorExp_walksQ hr.hd S.co (closure_ok S.free) S.cell S.dot S.loc S.kind dp _ hs
  refine thn (hi.run pins s σ H _ I h) ?_
  rintro xv s1 ⟨v, H1, I1, r1, tab, hR⟩
  obtain ⟨ps, hP, tr⟩ := id tab
  have isP : s1.heap.get? P = some { cls := .none, data := .fields ps } := I1.hok P _ hP
  have ltP : P < s1.heap.objs.size := Heap.lt_size isP
  obtain ⟨n, Pf, F, sc, calm, fin⟩ := src v H1 s1 xv hR tab I1 r1 ltP
  apply sc _ _ _ _ hr.hd
  intro o fp go W st hfp
  have isP2 : (s1.heap.push o).get? P = some { cls := .none, data := .fields ps } := Heap.get?_push_of_some _ isP
  have cd : PySem.W.CodeHd (s1.heap.push o) c P := TB.code.keeps fun b u e => Heap.get?_push_of_some _ (I1.bk b u e)
  have lim2 := I1.nolimit.push o
  refine And.intro lim2 ?_
  -- behind the making of the code object
  have rest : ∀ (code : Value) (h3 : Heap) (tk : Nat) (qs : Array Value), Heap.ExtBut P (s1.heap.push o) h3 → (s1.heap.push o).objs.size ≤ h3.objs.size → h3.get? P = some { cls := .none, data := .fields qs } → (∃ more, qs = ps ++ more) → TriplesOk qs.toList →
      wpAny (model X.prog X.w) X.A (builtinsFor X.env.globals X.env.builtins) (fun bi s4 =>
        ∃ it fp wr n₀ Pf St₀ pz F, Value.ref s1.heap.objs.size = .ref it ∧ (∀ A' : Around, A'.handled = none → Walks X.prog X.w A' it fp wr n₀ Pf St₀) ∧ St₀ 0 s4.heap ∧ (∀ b ∈ fp, b < s4.heap.objs.size) ∧ s4.heap.NoLimit ∧ cStatics ∉ wr ∧
          (∀ href : Heap, (∀ b o, s4.heap.get? b = some o → href.get? b = some o) → QuietGen X.prog X.w (genEnv scope (cloFrom X.env.cells scope.names []) s4.heap.objs.size code bi X.env) x [] elt (List.range s4.heap.objs.size) wr Pf pz F href) ∧
          (∀ a h₅ tk gs, gs.bare = true → s4.heap.objs.size < a → h₅.objs.size = a + 1 → (∀ b o, s4.heap.get? b = some o → h₅.get? b = some o) →
            WalksS X.prog X.w X.A.in4 a (a :: s4.heap.objs.size :: List.range s4.heap.objs.size) (s4.heap.objs.size :: wr) (GenOnlyQ s4.gens.size) (passing pz n₀ 0).length
              (fun j y => ∃ i, (passing pz n₀ 0)[j]? = some i ∧ F i y) (GenAt X.prog X.w X.A.in4 a s4.gens.size s4.heap.objs.size (List.range s4.heap.objs.size) wr pz n₀ F) →
            GenAt X.prog X.w X.A.in4 a s4.gens.size s4.heap.objs.size (List.range s4.heap.objs.size) wr pz n₀ F 0 { s4 with gens := s4.gens.push gs, toks := tk, heap := h₅ } →
            Q' (.ref a) { s4 with gens := s4.gens.push gs, toks := tk, heap := h₅ })) X.xe { s1 with heap := h3, toks := tk } := by
    intro code h3 tk qs ex size isP3 grown tr3
    obtain ⟨bm, ob, b1, b2, b3, b4, b5, b6, b7, b8⟩ := TB.bm
    have old3 : ∀ b u, b ≠ P → s1.heap.get? b = some u → h3.get? b = some u := fun b u nb e => ex b u nb (Heap.get?_push_of_some _ e)
    have itlt : s1.heap.objs.size < h3.objs.size := by
      have q : (s1.heap.push o).objs.size = s1.heap.objs.size + 1 := Heap.size_push ..
      omega
    obtain ⟨mc, nsc, _⟩ := id I1.nolimit
    have ltc : cStatics < s1.heap.objs.size := nsc.lt
    have ncP : cStatics ≠ P := by
      intro e
      obtain ⟨o', es, ep, ho, hd, _⟩ := nsc
      rw [e, isP] at ho
      cases ho
      cases hd
    have gl : h3.Ns X.env.globals X.mg := by
      rw [I1.ok.glob]
      exact ((I1.mod.glob.keeps I1.bk).push o).extBut ex TB.gP
    apply wpAny_builtinsFor gl b1 b2 (old3 _ _ b4 (I1.bk _ _ b5)) b6 b7 b8
    refine ⟨s1.heap.objs.size, fp, [s1.heap.objs.size], n, Pf, go, (fun _ => true), F, rfl, W, ?_, ?_, lim2.extBut ex ncP, ?_, ?_, ?_⟩
    · exact (W X.A hr.hd).frame _ _ _ st fun b hb u e => ex b u (hfp b hb).2 e
    · intro b hb
      exact Nat.lt_of_le_of_lt (hfp b hb).1 itlt
    · intro z
      rcases List.mem_cons.mp z with z | z
      · exact Nat.ne_of_lt ltc z
      · cases z
    · intro href kept
      constructor
      · intro A' E' i v s2 m2 hA hPv hn hm hk
        simp only [List.forIn_nil]
        exact wpAny_pure ⟨rfl, GxR.keeps_refl _⟩
      · intro A' E' i v s2 m2 hA hPv hp hn hm hk
        refine calm _ A' E' i v s2 m2 rfl rfl rfl rfl hA hPv hn hm ?_
        intro b u nb e
        have l1 := Heap.lt_size e
        refine hk b (List.mem_range.mpr (Nat.lt_trans l1 itlt)) ?_ u (kept b u (old3 b u nb e))
        intro z
        rcases List.mem_cons.mp z with z | z
        · exact Nat.ne_of_lt l1 z
        · cases z
    · intro g h5 tk5 gs bare lt5 sz5 keep5 W5 at5
      simp only [GxR.passing_true, List.length_range] at W5
      refine fin g _ ⟨_, _, _, _, walksS_imp W5.in4_1 ?_, at5, ?_⟩
      · rintro j y ⟨i, hj, hF⟩
        obtain ⟨hlt, ej⟩ := List.getElem?_eq_some_iff.mp hj
        rw [List.getElem_range] at ej
        rw [ej]
        exact hF
      · intro s' mv
        obtain ⟨more, em⟩ := grown
        have out : ∀ b u, s1.heap.get? b = some u → b ∉ h3.objs.size :: [s1.heap.objs.size] := by
          intro b u e hb
          have l1 : b < s1.heap.objs.size := Heap.lt_size e
          rcases List.mem_cons.mp hb with z | z
          · exact Nat.lt_irrefl _ (Nat.lt_trans (z ▸ l1 : (h3.objs.size : Nat) < s1.heap.objs.size) itlt)
          · rcases List.mem_cons.mp z with z | z
            · exact Nat.ne_of_lt l1 z
            · cases z
        have other : ∀ b u, b ≠ P → s1.heap.get? b = some u → s'.heap.get? b = some u := fun b u nb e => mv.heap b u (out b u e) (keep5 b u (old3 b u nb e))
        have tabNow : s'.heap.get? P = some { cls := .none, data := .fields (ps ++ more) } := by
          rw [← em]
          exact mv.heap P _ (out P _ isP) (keep5 P _ isP3)
        have J := GxR.inv_tab (more := more) (h' := s'.heap) (g' := s'.gens) (d' := s'.drawn) (t' := s'.toks) I1 hP other tabNow (AllBare.movedS (I1.bare.push bare) mv)
        rw [GxR.sh_eta s1 s' mv.os] at J
        refine ⟨upd H1 P (.tbl (ps ++ more)), ⟨⟨ps ++ more, upd_same, ?_⟩, fun b nb => upd_ne nb⟩, J⟩
        rw [← em]
        exact tr3
  cases hit : codeAmong gpos ps.toList with
  | none =>
    apply wpAny_genexprCodeX hcode (cd.code isP2 tr) (cd.tab isP2) hit
    intro c' h' tk ex ge lt co' _ tab' _
    obtain ⟨o1, vs, f1, tf, fl, tg, inF, tx, tt, op, _, _, _, _, _, _, _, _, _, tr', _⟩ := co'
    exact rest _ h' tk _ ex (Nat.le_trans ge (Nat.le_of_lt lt)) tab'.2 ⟨_, rfl⟩ tr'
  | some cv =>
    apply wpAny_genexprCode_hit hcode (cd.code isP2 tr) hit
    exact rest cv (s1.heap.push o) s1.toks ps (Heap.ExtBut.refl _ _) (Nat.le_refl _) isP2 ⟨#[], by simp⟩ tr
/-- all(test for x in iter): the test of the i-th item is tr i -/
def tAllG (P : Addr) (te : TE) (R : V → Hp → Nat → (Nat → Bool) → Prop) : TE := fun σ H Q => te σ H fun v H1 => GxR.TabG H1 P ∧ ∃ n tr, R v H1 n tr ∧ ∀ H2, GxR.Tabbed P H1 H2 → Q (.bl ((List.range n).all tr)) H2
/-- what a rule for all(..) asks of the walked thing and the element -/
def GenR (X : Cx) (P : Addr) (scope : Scope) (x : Str) (elt : Expr) (R : V → Hp → Nat → (Nat → Bool) → Prop) : Prop :=
  ∀ pins σ v H1 s1 u n tr, R v H1 n tr → GxR.TabG H1 P → Inv X pins σ H1 s1 → RelV v u → P < s1.heap.objs.size → ∃ Pf F, Src X.prog X.w P s1 u n Pf ∧ Calm X P scope x elt s1 Pf F ∧ TruthOf X.prog X.w X.A.in1 F tr
theorem pe_allG {c P : Addr} {elt iter : Expr} {x : Str} {px p pos gpos : Pos} {scope : Scope} {te : TE} {k : Nat} {R : V → Hp → Nat → (Nat → Bool) → Prop}
    (hr : Room k X.A) (hg : Gl X "all") (hm : X.mg "all" = none) (TB : GxR.TabB X.base X.mg c P) (hcode : X.env.code = .ref c) (S : GxR.GenS X.env scope x) (hi : PE X iter te) (rule : GenR X P scope x elt R)
    (hs : ∀ v, genFold iter X.env v = pure v := by intro _; rfl)
    (he : starEach [.GeneratorExp elt [⟨.Name x px, iter, [], 0⟩] scope gpos] X.env = (false, eval (.GeneratorExp elt [⟨.Name x px, iter, [], 0⟩] scope gpos) X.env) :: starEach [] X.env := by rfl) :
    PE X (.Call (.Name "all" p) [.GeneratorExp elt [⟨.Name x px, iter, [], 0⟩] scope gpos] [] pos) (tAllG P te R) := by
  constructor
  intro pins s σ H Q I h
  apply wpAny_Call_Name_kw
  apply ld_blt I hg hm (show bootBuiltins "all" = some (.builtin "all") by decide +kernel)
  apply PyProof.Rows.callWith_builtin1 _ he (by rfl)
  rw [he]
  show wpAny _ _ (spliced ((false, eval (.GeneratorExp elt [⟨.Name x px, iter, [], 0⟩] scope gpos) X.env) :: backTo pos (starEach [] X.env))) _ _ s
  apply Calls.spliced_cons
  apply gen_make (R := fun v H1 => ∃ n tr, R v H1 n tr ∧ ∀ H2, GxR.Tabbed P H1 H2 → Q (.bl ((List.range n).all tr)) H2) hr TB hcode S hi hs I h
  rintro v H1 s1 u ⟨n, tr, hR, q⟩ tab I1 ru ltP
  obtain ⟨Pf, F, sc, calm, tru⟩ := rule pins σ v H1 s1 u n tr hR tab I1 ru ltP
  refine ⟨n, Pf, F, sc, calm, ?_⟩
  rintro g s5 ⟨fp, wr, G, go, W, st, inv⟩
  apply Calls.spliced_nil
  apply call_all_walkS
  apply W.self 0 _ _ _ st
  refine ⟨g, fp, wr, G, n, F, go, tr, rfl, W, st, tru, ?_⟩
  intro s' mv
  obtain ⟨H2, tb, J⟩ := inv s' mv
  exact ⟨.bl _, H2, J, rfl, q H2 tb⟩
end
end Cu

namespace Cu
open PySem PySem.Spec PyProof.Rows L2
/-! ### data with dicts -/
def keyD : Key → PyData
  | .inl i => .int i
  | .inr x => .str x
mutual
inductive Dx (H : Hp) : V → PyData → Prop
  | non : Dx H .non .none
  | bl (b : Bool) : Dx H (.bl b) (.bool b)
  | int (i : Int) : Dx H (.int i) (.int i)
  | str (x : Str) : Dx H (.str x) (.str x)
  | lst {a : Addr} {xs : List V} {ds : List PyData} (e : H a = some (.lst xs)) (k : DxAll H xs ds) : Dx H (.ref a) (.list ds)
  | tup {a : Addr} {xs : List V} {ds : List PyData} (e : H a = some (.tup xs)) (k : DxAll H xs ds) : Dx H (.ref a) (.tuple ds)
  | dct {a : Addr} {kvs : List (Key × V)} {ds : List (PyData × PyData)} (e : H a = some (.dK kvs)) (k : DxKv H kvs ds) : Dx H (.ref a) (.dict ds)
inductive DxAll (H : Hp) : List V → List PyData → Prop
  | nil : DxAll H [] []
  | cons {v : V} {vs : List V} {d : PyData} {ds : List PyData} (h : Dx H v d) (t : DxAll H vs ds) : DxAll H (v :: vs) (d :: ds)
inductive DxKv (H : Hp) : List (Key × V) → List (PyData × PyData) → Prop
  | nil : DxKv H [] []
  | cons {k : Key} {v : V} {r : List (Key × V)} {d : PyData} {ds : List (PyData × PyData)} (h : Dx H v d) (t : DxKv H r ds) : DxKv H ((k, v) :: r) ((keyD k, d) :: ds)
end
/-- what the relation leans on stays -/
def Stays (H H' : Hp) : Prop := ∀ b o, H b = some o → (∃ xs, o = .lst xs) ∨ (∃ xs, o = .tup xs) ∨ (∃ kvs, o = .dK kvs) → H' b = some o
mutual
theorem Dx.stays {H H' : Hp} (s : Stays H H') : ∀ (d : PyData) (v : V), Dx H v d → Dx H' v d
  | .none, _, h => by
    cases h
    exact .non
  | .bool b, _, h => by
    cases h
    exact .bl b
  | .int i, _, h => by
    cases h
    exact .int i
  | .str x, _, h => by
    cases h
    exact .str x
  | .list ds, _, h => by
    cases h with
    | lst e k => exact .lst (s _ _ e (.inl ⟨_, rfl⟩)) (DxAll.stays s ds _ k)
  | .tuple ds, _, h => by
    cases h with
    | tup e k => exact .tup (s _ _ e (.inr (.inl ⟨_, rfl⟩))) (DxAll.stays s ds _ k)
  | .dict ds, _, h => by
    cases h with
    | dct e k => exact .dct (s _ _ e (.inr (.inr ⟨_, rfl⟩))) (DxKv.stays s ds _ k)
theorem DxAll.stays {H H' : Hp} (s : Stays H H') : ∀ (ds : List PyData) (vs : List V), DxAll H vs ds → DxAll H' vs ds
  | [], _, h => by
    cases h
    exact .nil
  | d :: ds, _, h => by
    cases h with
    | cons h t => exact .cons (Dx.stays s d _ h) (DxAll.stays s ds _ t)
theorem DxKv.stays {H H' : Hp} (s : Stays H H') : ∀ (ds : List (PyData × PyData)) (vs : List (Key × V)), DxKv H vs ds → DxKv H' vs ds
  | [], _, h => by
    cases h
    exact .nil
  | (_, d) :: ds, _, h => by
    cases h with
    | cons h t => exact .cons (Dx.stays s d _ h) (DxKv.stays s ds _ t)
end
section
variable {X : Cx} {pins : List (Addr × Obj)} {σ : L2.St} {H : Hp} {s : Shared}
theorem not_sys (sy : ∃ o, X.base.get? sysModules = some o) (I : Inv X pins σ H s) {a : Addr} {o : HO} (e : H a = some o) : sysModules ≠ a := by
  intro z
  obtain ⟨ob, eb⟩ := sy
  have n := (I.bs _ _ eb).2
  rw [z, e] at n
  cases n
theorem keys_read {h : Heap} : ∀ (ds : List (PyData × PyData)) {es : List DictEntry} {kvs : List (Key × V)} {vs : List (Key × Value)}, Pairs (mixKind X.prog X.w) es vs → KV kvs vs → DxKv H kvs ds → ReadsAll h (es.map (·.key)) (ds.map (·.1)) []
  | [], _, _, _, p, r, d => by
    cases d
    cases r
    cases p
    exact .nil
  | (_, _) :: ds, _, _, _, p, r, d => by
    cases d with
    | @cons k _ _ _ _ h6 h7 =>
      cases r with
      | cons h4 h5 =>
        cases p with
        | @cons e _ _ _ h1 h2 h3 =>
          have q := keys_read (h := h) ds h3 h5 h7
          have ek : keyIs k e.key = true := by
            have z := h1
            rw [← h4.1] at z
            exact z
          rcases keyIs_shape ek with ⟨i, t, rfl, e2⟩ | ⟨x, t, rfl, e2⟩
          · rw [List.map_cons, List.map_cons, e2]
            exact ReadsAll.cons (as := []) (Reads.int i t) q
          · rw [List.map_cons, List.map_cons, e2]
            exact ReadsAll.cons (as := []) (Reads.str x t) q
mutual
theorem Dx.reads (sy : ∃ o, X.base.get? sysModules = some o) (I : Inv X pins σ H s) : ∀ (d : PyData) (v : V) (u : Value), Dx H v d → RelV v u → ∃ as, Reads s.heap u d as ∧ sysModules ∉ as
  | .none, _, _, h, r => by
    cases h
    cases r
    exact ⟨_, Reads.none, fun z => (nomatch z)⟩
  | .bool b, _, _, h, r => by
    cases h
    cases r
    exact ⟨_, Reads.bool b, fun z => (nomatch z)⟩
  | .int i, _, _, h, r => by
    cases h
    obtain ⟨t, rfl⟩ := r
    exact ⟨_, Reads.int i t, fun z => (nomatch z)⟩
  | .str x, _, _, h, r => by
    cases h
    obtain ⟨t, rfl⟩ := r
    exact ⟨_, Reads.str x t, fun z => (nomatch z)⟩
  | .list ds, _, _, h, r => by
    cases h with
    | lst e k =>
      cases r
      obtain ⟨_, its, n, rv, eo⟩ := I.hok _ _ e
      obtain ⟨as, hr, hn⟩ := DxAll.reads sy I ds _ its k rv
      refine ⟨_, Reads.list eo rfl rfl (by rw [List.toList_toArray]; exact hr), fun z => ?_⟩
      rcases List.mem_cons.mp z with z | z
      · exact not_sys sy I e z
      · exact hn z
  | .tuple ds, _, _, h, r => by
    cases h with
    | tup e k =>
      cases r
      obtain ⟨_, its, rv, o, ho, hc, n, hd⟩ := I.hok _ _ e
      obtain ⟨as, hr, hn⟩ := DxAll.reads sy I ds _ its k rv
      exact ⟨_, Reads.tuple ho hc hd (by rw [List.toList_toArray]; exact hr), hn⟩
  | .dict ds, _, _, h, r => by
    cases h with
    | dct e k =>
      cases r
      obtain ⟨_, _, vs, kv, o, es, ep, ho, hx, hd, hk, hp, _⟩ := I.hok _ _ e
      obtain ⟨bs, hr, hn⟩ := DxKv.reads sy I ds _ vs es.toList k kv hp
      refine ⟨_, Reads.dict (as := []) ho hx.1 hd (keys_read ds hp kv k) hr, fun z => ?_⟩
      rcases List.mem_append.mp z with z | z
      · rcases List.mem_cons.mp z with z | z
        · exact not_sys sy I e z
        · cases z
      · exact hn z
theorem DxAll.reads (sy : ∃ o, X.base.get? sysModules = some o) (I : Inv X pins σ H s) : ∀ (ds : List PyData) (vs : List V) (us : List Value), DxAll H vs ds → Vals vs us → ∃ as, ReadsAll s.heap us ds as ∧ sysModules ∉ as
  | [], _, _, h, r => by
    cases h
    cases r
    exact ⟨_, ReadsAll.nil, fun z => (nomatch z)⟩
  | d :: ds, _, _, h, r => by
    cases h with
    | cons h1 h2 =>
      cases r with
      | cons r1 r2 =>
        obtain ⟨as, q1, n1⟩ := Dx.reads sy I d _ _ h1 r1
        obtain ⟨bs, q2, n2⟩ := DxAll.reads sy I ds _ _ h2 r2
        exact ⟨_, ReadsAll.cons q1 q2, fun z => (List.mem_append.mp z).elim n1 n2⟩
theorem DxKv.reads (sy : ∃ o, X.base.get? sysModules = some o) (I : Inv X pins σ H s) : ∀ (ds : List (PyData × PyData)) (kvs : List (Key × V)) (vs : List (Key × Value)) (es : List DictEntry), DxKv H kvs ds → KV kvs vs → Pairs (mixKind X.prog X.w) es vs →
    ∃ as, ReadsAll s.heap (es.map (·.val)) (ds.map (·.2)) as ∧ sysModules ∉ as
  | [], _, _, _, h, r, p => by
    cases h
    cases r
    cases p
    exact ⟨_, ReadsAll.nil, fun z => (nomatch z)⟩
  | (_, d) :: ds, _, _, _, h, r, p => by
    cases h with
    | cons h1 h2 =>
      cases r with
      | cons r1 r2 =>
        cases p with
        | cons p1 p2 p3 =>
          obtain ⟨bs, q2, n2⟩ := DxKv.reads sy I ds _ _ _ h2 r2 p3
          obtain ⟨as, q1, n1⟩ := Dx.reads sy I d _ _ h1 r1.2
          refine ⟨_, ReadsAll.cons (as := as) ?_ q2, fun z => (List.mem_append.mp z).elim n1 n2⟩
          show Reads s.heap _ d as
          dsimp only
          rw [p2]
          exact q1
end
end
/-- data that repr can show, dicts too -/
structure Shx (d : PyData) : Prop where
  show_ : d.showable = true
  dep : d.depth ≤ 60
  len : d.shown.length ≤ sizeLine
def rReprX : List V → Hp → VK → Prop := fun xs H Q => ∃ x d, xs = [x] ∧ Dx H x d ∧ Shx d ∧ Q (.str d.shown) H
theorem call_reprX {X : Cx} (sy : ∃ o, X.base.get? sysModules = some o) (hg : X.A.guards = some []) (hu : X.A.units + 64 < cLine) : CallR X (.builtin "repr") rReprX := by
  intro pins s σ H xs us Q I r h
  obtain ⟨x, d, rfl, hd, ⟨hs, h6, hz⟩, q⟩ := h
  obtain ⟨u, rfl, ru⟩ := vals1 r
  obtain ⟨as, rd, ns⟩ := Dx.reads sy I d x u hd ru
  have fin : ∀ a, u = .ref a → wpAny (model X.prog X.w) X.A (call (.builtin "repr") [u]) (EP X pins σ Q) X.xe s := by
    rintro a rfl
    exact repr_of_reads' rd hs (fun _ => ns) hg (by omega) (fun _ _ e => e) (fun h' t tk k => ⟨.str _, H, I.kept k, ⟨t, rfl⟩, q⟩) hz
  cases hd with
  | non =>
    cases ru
    exact PySem.P.repr_of_none ⟨.str _, H, I.tok _, ⟨_, rfl⟩, q⟩
  | bl b =>
    cases ru
    cases b
    · exact PySem.P.repr_of_bool ⟨.str _, H, I.tok _, ⟨_, rfl⟩, q⟩
    · exact PySem.P.repr_of_bool ⟨.str _, H, I.tok _, ⟨_, rfl⟩, q⟩
  | int i =>
    obtain ⟨t, rfl⟩ := ru
    refine PySem.P.repr_of_int ?_ ⟨.str _, H, I.tok _, ⟨_, rfl⟩, q⟩
    exact of_decide_eq_true hs
  | str y =>
    obtain ⟨t, rfl⟩ := ru
    exact PySem.P.repr_of_str ⟨.str _, H, I.tok _, ⟨_, rfl⟩, q⟩ hz
  | lst _ _ => exact fin _ ru
  | tup _ _ => exact fin _ ru
  | dct _ _ => exact fin _ ru
/-- bounds of what is shown -/
structure Gx (n k : Nat) (d : PyData) : Prop where
  len : d.shown.length ≤ n
  dep : d.depth ≤ k
  show_ : d.showable = true
theorem Gx.shx {n k : Nat} {d : PyData} (g : Gx n k d) (hn : n ≤ 16000000 := by decide) (hk : k ≤ 60 := by decide) : Shx d := ⟨g.show_, Nat.le_trans g.dep hk, Nat.le_trans (Nat.le_trans g.len hn) (by decide)⟩
theorem Gx.mono {n k n' k' : Nat} {d : PyData} (g : Gx n k d) (hn : n ≤ n') (hk : k ≤ k') : Gx n' k' d := ⟨Nat.le_trans g.len hn, Nat.le_trans g.dep hk, g.show_⟩
theorem Good.gx {n k : Nat} {d : PyData} (g : Good n k d) : Gx n k d := ⟨g.len, g.dep, g.show_⟩
theorem gx_all {n k : Nat} : ∀ ds : List PyData, (∀ d ∈ ds, Gx n k d) → PyData.depthAll ds ≤ k ∧ PyData.showableAll ds = true
  | [], _ => by simp [PyData.depthAll, PyData.showableAll]
  | d :: r, h => by
    obtain ⟨h1, h2⟩ := gx_all r fun z m => h z (List.mem_cons_of_mem _ m)
    have g := h d List.mem_cons_self
    have g2 := g.dep
    simp only [PyData.depthAll, PyData.showableAll, g.show_, h2, Bool.and_self, and_true]
    omega
theorem gx_list {n k m : Nat} {ds : List PyData} (h : ∀ d ∈ ds, Gx n k d) (hm : (n + 2) * ds.length + 2 ≤ m) : Gx m (k + 1) (.list ds) := by
  obtain ⟨h1, h2⟩ := gx_all ds h
  have p := piled_le ds fun d z => (h d z).len
  have t := list_text (PyData.shownAll ds)
  refine ⟨?_, ?_, ?_⟩
  · simp only [PyData.shown]
    omega
  · simp only [PyData.depth]
    omega
  · simp only [PyData.showable]
    exact h2
theorem gx_tup {n k m : Nat} {ds : List PyData} (h : ∀ d ∈ ds, Gx n k d) (hm : (n + 2) * ds.length + 2 ≤ m) : Gx m (k + 1) (.tuple ds) := by
  obtain ⟨h1, h2⟩ := gx_all ds h
  have p := piled_le ds fun d z => (h d z).len
  have t := fmt_text (PyData.shownAll ds)
  refine ⟨?_, ?_, ?_⟩
  · simp only [PyData.shown]
    omega
  · simp only [PyData.depth]
    omega
  · simp only [PyData.showable]
    exact h2
/-! ### a def by its body, its code object known -/
theorem okC {P : Program} {w : World} {K : PySem.W.Frag} {mg : Str → Option Value} {base : Heap} {x qual : Str} {st : Stmt} {f c : Addr} {fd : FuncData} {N ps : List Str} {k : Nat} {sp : Sp} (F : Fun K x qual st f fd) (hc : fd.code = .ref c) (S : FnScope N ps (defScope st)) (len : ∀ vs H Q E, sp vs H Q E → vs.length = ps.length)
    (hbody : ∀ (A : Around) (outer : List Env) (s : Shared) (H : Hp) (vs : List V) (Q : VK) (E : XK), Room k (A.deeper (envOfC qual (defScope st) s.heap.objs.size f (.ref c))) → sp vs H Q E →
      ∃ t, PSs (cxOf CX0 P w K mg base N qual (defScope st) f (.ref c) A outer s H E).nox (defBody st) t ∧ t { nx := fun _ H' => Q .non H', rt := Q } (start N vs) H) : FnOk P w K mg base CX0 (k + 1) f fd ps sp := by
  obtain ⟨oc, od, kV, doc, pm, an, cdv, ct, osl, rfl, lk, hcd⟩ := F.ex
  have e : cdv = .ref c := hc
  subst e
  refine fn_of lk hcd S len ?_
  intro A outer s H vs Q E hr hsp
  obtain ⟨t, h, q⟩ := hbody A outer s H vs Q E hr hsp
  exact ⟨t, h.nox, q⟩
theorem code_of {K : PySem.W.Frag} {x : Str} {f c P : Addr} {oc : Value} {od : Option Addr} {fd : FuncData} {sl : Array (Option Value)} (a : PySem.W.nsIn K mainGlobals x = some (some (.ref f))) (l : K.lookup f = some ⟨oc, od, .func fd, sl⟩) (ht : PySem.W.tabIn K x = some (c, P)) : fd.code = .ref c := by
  unfold PySem.W.tabIn at ht
  rw [a] at ht
  dsimp only at ht
  rw [l] at ht
  dsimp only at ht
  split at ht
  · rename_i c' hc
    split at ht
    · split at ht
      · cases Option.some.inj ht
        exact hc
      · cases ht
    · cases ht
  · cases ht
theorem out_of_K {K : PySem.W.Frag} {h : Heap} {P : Addr} (X : K.In h) (nt : PySem.W.noTabs K = true) (e : h.get? P = some (PySem.W.tabObj #[])) : K.lookup P = none := by
  cases q : K.lookup P with
  | none => rfl
  | some o =>
    have e2 := X P o q
    rw [e] at e2
    cases e2
    have e3 := List.all_eq_true.mp nt _ (PySem.W.mem_of_lookupK q)
    exact absurd (show false = true from e3) Bool.false_ne_true
end Cu

namespace Cu
open PySem PySem.Spec PyProof.Rows L2
/-! ### all(test for x in text) -/
def RText (pb : Nat → Bool) : V → Hp → Nat → (Nat → Bool) → Prop := fun v _ n tr => ∃ a : Str, v = .str a ∧ n = a.cps.size ∧ tr = GxR.trF pb a.cps.toList
/-- what the generator's frame knows of the module -/
structure Around1 (X : Cx) (cenv : Env) (h : Heap) : Prop where
  gl : h.Ns cenv.globals X.mg
  bl : ∃ mb, h.Ns cenv.builtins mb ∧ ∀ x : Str, x ≠ "__name__" → mb x = bootBuiltins x
/-- the element is a test of the sign -/
def SignTest (X : Cx) (scope : Scope) (x : Str) (elt : Expr) (pb : Nat → Bool) : Prop :=
  ∀ (cenv : Env) (A' : Around) (E' : Value → Shared → Prop) (c : Nat) (t : Tok) (s2 : Shared) (m2 : Str → Option Value), cenv.scope = scope → A'.handled = none → Around1 X cenv s2.heap → s2.heap.Ns cenv.locals m2 → m2 x = some (.str ⟨#[c]⟩ t) →
    wpAny (model X.prog X.w) A' (eval elt cenv) (fun y s3 => y = .bool (pb c) ∧ Keeps s2 s3) E' s2
theorem genR_text {X : Cx} {P : Addr} {scope : Scope} {x : Str} {elt : Expr} {pb : Nat → Bool} (hel : SignTest X scope x elt pb) : GenR X P scope x elt (RText pb) := by
  rintro pins σ v H1 s1 u n tr ⟨a, rfl, rfl, rfl⟩ ⟨ps, hP, _⟩ I ru ltP
  obtain ⟨t, rfl⟩ := ru
  refine ⟨SignAt a, fun i y => ∃ c, a.cps[i]? = some c ∧ y = .bool (pb c), src_str ltP, ?_, ?_⟩
  · intro cenv A' E' i v s2 m2 e1 e2 e3 e4 hh hv hn hm keep
    obtain ⟨c, t, hc, rfl⟩ := hv
    have kb : ∀ b u, X.base.get? b = some u → s2.heap.get? b = some u := by
      intro b u e
      have q := I.bs b u e
      refine keep b u ?_ q.1
      intro z
      rw [z, hP] at q
      cases q.2
    have ar : Around1 X cenv s2.heap := by
      constructor
      · rw [e2, I.ok.glob]
        exact I.mod.glob.keeps kb
      · obtain ⟨mb, q1, q2⟩ := I.mod.blt
        rw [e3]
        exact ⟨mb, q1.keeps kb, q2⟩
    refine wpAny_mono (hel cenv A' E' c t s2 m2 e1 hh ar hn hm) ?_ (fun _ _ z => z)
    rintro y s3 ⟨rfl, k⟩
    exact ⟨⟨c, hc, rfl⟩, k⟩
  · rintro i y s2 Q E ⟨c, hc, rfl⟩ q
    have e : a.cps.toList[i]? = some c := by
      rw [Array.getElem?_toList]
      exact hc
    rw [GxR.trF_some e] at q
    exact wpAny_truthy_bool q
theorem text_all (a : Str) (pb : Nat → Bool) : (List.range a.cps.size).all (GxR.trF pb a.cps.toList) = (tl a).all pb := GxR.all_signs a pb
/-- lo <= x <= hi -/
def between (lo hi : Str) (c : Nat) : Bool := !decide ([c] < lo.cps.toList) && !decide (hi.cps.toList < [c])
theorem eval_between {X : Cx} {scope : Scope} {x lo hi : Str} {j1 j2 : Nat} {p1 p2 p3 p4 : Pos} {cenv : Env} {A' : Around} {E' : Value → Shared → Prop} {c : Nat} {t : Tok} {s2 : Shared} {m2 : Str → Option Value} {Q : Value → Shared → Prop}
    (hk : scope.kind = .function) (hl : scope.names.lookup x = some .local) (hd : (x == ("__debug__" : Str)) = false) (e1 : cenv.scope = scope) (hn : s2.heap.Ns cenv.locals m2) (hm : m2 x = some (.str ⟨#[c]⟩ t))
    (q : ∀ tk, Q (.bool (between lo hi c)) { s2 with toks := tk }) :
    wpAny (model X.prog X.w) A' (eval (.Compare (.Constant (.str lo) j1 p1) [.LtE, .LtE] [.Name x p2, .Constant (.str hi) j2 p3] p4) cenv) Q E' s2 := by
  refine Compare_chain ?_
  apply Calls.Constant_str
  apply chain_link
  refine wpAny_Name (wpAny_loadName_local (by rw [e1]; exact hk) (show cenv.scope.names.lookup x = some .local by rw [e1]; exact hl) hn hm ?_) hd
  apply PySem.P.le_str
  apply wpAny_truthy_bool
  by_cases h : [c] < lo.cps.toList
  · have e : (!decide ([c] < lo.cps.toList)) = false := by
      rw [decide_eq_true h]
      rfl
    show (if (!decide ([c] < lo.cps.toList)) = true then _ else Q (.bool (!decide ([c] < lo.cps.toList))) _)
    rw [e]
    have z := q (s2.toks + 1)
    unfold between at z
    rw [e, Bool.false_and] at z
    exact z
  · have e : (!decide ([c] < lo.cps.toList)) = true := by
      rw [decide_eq_false h]
      rfl
    show (if (!decide ([c] < lo.cps.toList)) = true then _ else Q (.bool (!decide ([c] < lo.cps.toList))) _)
    rw [e, if_pos rfl]
    apply chain_last
    apply Calls.Constant_str
    apply PySem.P.le_str
    have z := q (s2.toks + 1 + 1)
    unfold between at z
    rw [e, Bool.true_and] at z
    exact z
theorem test_between {X : Cx} {scope : Scope} {x lo hi : Str} {j1 j2 : Nat} {p1 p2 p3 p4 : Pos} (hk : scope.kind = .function) (hl : scope.names.lookup x = some .local) (hd : (x == ("__debug__" : Str)) = false := by decide) :
    SignTest X scope x (.Compare (.Constant (.str lo) j1 p1) [.LtE, .LtE] [.Name x p2, .Constant (.str hi) j2 p3] p4) (between lo hi) := by
  intro cenv A' E' c t s2 m2 e1 hh ar hn hm
  exact eval_between hk hl hd e1 hn hm fun tk => ⟨rfl, GxR.keeps_tok _ _⟩
/-- lo <= x <= hi and ord(x) != N -/
theorem test_between_ord {X : Cx} {scope : Scope} {x lo hi N : Str} {n : Int} {tn : Tok} {j1 j2 : Nat} {p1 p2 p3 p4 p5 p6 p7 p8 p9 p10 : Pos} (hk : scope.kind = .function) (hl : scope.names.lookup x = some .local) (ho : scope.names.lookup ("ord" : Str) = some .globalImplicit)
    (hN : scope.names.lookup N = some .globalImplicit) (mo : X.mg "ord" = none) (mN : X.mg N = some (.int n tn)) (hd : (x == ("__debug__" : Str)) = false := by decide) (hdN : (N == ("__debug__" : Str)) = false := by decide) :
    SignTest X scope x (.BoolOp .And [.Compare (.Constant (.str lo) j1 p1) [.LtE, .LtE] [.Name x p2, .Constant (.str hi) j2 p3] p4, .Compare (.Call (.Name "ord" p5) [.Name x p6] [] p7) [.NotEq] [.Name N p8] p9] p10) (fun c => between lo hi c && ((c : Int) != n)) := by
  intro cenv A' E' c t s2 m2 e1 hh ar hn hm
  have kf : cenv.scope.kind = .function := by rw [e1]; exact hk
  apply BoolOp_and
  apply eval_between hk hl hd e1 hn hm
  intro tk
  apply wpAny_truthy_bool
  obtain ⟨mb, hb, hbb⟩ := ar.bl
  cases hbt : between lo hi c with
  | false =>
    show (if false = true then _ else _)
    rw [if_neg Bool.false_ne_true]
    refine ⟨?_, GxR.keeps_tok _ _⟩
    show Value.bool false = Value.bool (between lo hi c && _)
    rw [hbt, Bool.false_and]
  | true =>
    show (if true = true then _ else _)
    rw [if_pos rfl]
    apply BoolOp_one
    refine wpAny_Compare1 ?_
    refine wpAny_Call_Name_kw ?_
    refine Calls.Name_function_global (s := { s2 with toks := tk }) kf (show cenv.scope.names.lookup ("ord" : Str) = some .globalImplicit by rw [e1]; exact ho) ?_
    refine Calls.loadGlobal_builtin (s := { s2 with toks := tk }) ar.gl mo hb ((hbb "ord" (by decide)).trans (show bootBuiltins "ord" = some (.builtin "ord") by decide +kernel)) ?_
    refine PyProof.Rows.callWith_builtin1 ?_ rfl rfl
    show wpAny _ _ (spliced ((false, eval (.Name x p6) cenv) :: backTo p7 (starEach [] cenv))) _ _ _
    refine Calls.spliced_cons ?_
    refine wpAny_Name (wpAny_loadName_local (s := { s2 with toks := tk }) kf (show cenv.scope.names.lookup x = some .local by rw [e1]; exact hl) hn hm ?_) hd
    refine Calls.spliced_nil ?_
    refine PySem.P.ord_of_char ?_
    refine Calls.Name_function_global (s := { s2 with toks := tk + 1 }) kf (show cenv.scope.names.lookup N = some .globalImplicit by rw [e1]; exact hN) ?_ hdN
    refine Calls.loadGlobal_global (s := { s2 with toks := tk + 1 }) ar.gl mN ?_
    refine PySem.P.ne_int ?_
    refine ⟨?_, GxR.keeps_tok _ _⟩
    show Value.bool ((c : Int) != n) = Value.bool (between lo hi c && _)
    rw [hbt, Bool.true_and]
theorem gen_scope {env : Env} {scope : Scope} {x : Str} (h1 : scope.kind = .function) (h2 : scope.isCoroutine = false) (h3 : ∀ y ∈ scope.names, y.2 ≠ .cell ∧ y.2 ≠ .free) (h4 : scope.names.lookup (".0" : Str) = some NameKind.local) (h5 : scope.names.lookup x = some .local) : GxR.GenS env scope x :=
  ⟨h1, h2, fun y m => (h3 y m).1, h4, h5, fun y m e => absurd e (h3 y m).2⟩
/-- a comprehension over a text -/
theorem lc_str {a : Str} {g : TG} {tt : TT} {te : TE} {vs : List Nat} {σ : L2.St} {H1 : Hp} {D : Addr} {Qd : Hp → Prop} (Pv : Nat → Hp → Prop) (h0 : Pv 0 (upd H1 D (.lst [])))
    (hs : ∀ i c H, (tl a)[i]? = some c → Pv i H → g (.str ⟨#[c]⟩) (wipe σ vs) H fun σ2 H2 => wipe σ2 vs = wipe σ vs ∧ tt σ2 H2 fun b H3 =>
      if b = true then te σ2 H3 fun y H4 => ∃ acc, H4 D = some (.lst acc) ∧ acc.length < sizeLine ∧ Pv (i + 1) (upd H4 D (.lst (acc ++ [y]))) else Pv (i + 1) H3) (hd : ∀ H, Pv a.cps.size H → Qd H) :
    ∃ W : Nat → Nat → Hp → Prop, (∃ m, W 0 m (upd H1 D (.lst []))) ∧ ∀ i m H, W i m H →
      ((Its a).stop i H ∧ Qd H) ∨ ((Its a).go i H ∧ ∃ Nx : Hp → Prop, (∀ H', Nx H' → ∃ m', m' < m ∧ W (i + 1) m' H') ∧ ∀ x H', (Its a).yld i H x H' → g x (wipe σ vs) H' fun σ2 H2 => wipe σ2 vs = wipe σ vs ∧ tt σ2 H2 fun b H3 =>
        if b = true then te σ2 H3 fun y H4 => ∃ acc, H4 D = some (.lst acc) ∧ acc.length < sizeLine ∧ Nx (upd H4 D (.lst (acc ++ [y]))) else Nx H3) := by
  refine ⟨fun i m H => m = a.cps.size - i ∧ i ≤ a.cps.size ∧ Pv i H, ⟨a.cps.size, by simp, Nat.zero_le _, h0⟩, ?_⟩
  rintro i m H ⟨rfl, le, p⟩
  rcases Nat.lt_or_ge i a.cps.size with lt | ge
  · refine .inr ⟨lt, Pv (i + 1), ?_, ?_⟩
    · intro H' p'
      exact ⟨a.cps.size - (i + 1), by omega, rfl, lt, p'⟩
    · rintro x H' ⟨rfl, c, hc, rfl⟩
      exact hs i c _ (by rw [Array.getElem?_toList]; exact hc) p
  · obtain rfl : i = a.cps.size := by omega
    exact .inl ⟨Nat.le_refl _, hd H p⟩
theorem one_lt (c d : Nat) : decide ([c] < [d]) = decide (c < d) := by
  rw [decide_eq_decide, List.cons_lt_cons_iff]
  constructor
  · rintro (h | ⟨_, h⟩)
    · exact h
    · exact absurd h (List.not_lt_nil _)
  · exact Or.inl
theorem all_take (pb : Nat → Bool) (l : List Nat) : ((l.map pb).all id) = l.all pb := by
  rw [List.all_map]
  rfl
theorem tri0 : TriplesOk (#[] : Array Value).toList := True.intro
theorem tabIn_of {K : PySem.W.Frag} {x : Str} {f c P : Addr} {oc ox : Value} {od oy : Option Addr} {fd : FuncData} {sl sz : Array (Option Value)} {vs : Array Value} (a : PySem.W.nsIn K mainGlobals x = some (some (.ref f))) (l : K.lookup f = some ⟨oc, od, .func fd, sl⟩) (hc : fd.code = .ref c)
    (lc : K.lookup c = some ⟨ox, oy, .fields vs, sz⟩) (pv : vs[11]? = some (.ref P)) : PySem.W.tabIn K x = some (c, P) := by
  unfold PySem.W.tabIn
  rw [a]
  dsimp only
  rw [l]
  dsimp only
  rw [hc]
  dsimp only
  rw [lc]
  dsimp only
  rw [pv]
/-- two tables -/
theorem tabsAt_of {h : Heap} {c1 p1 c2 p2 : Addr} (a : PySem.W.CodeHd h c1 p1 ∧ h.get? p1 = some (PySem.W.tabObj #[])) (b : PySem.W.CodeHd h c2 p2 ∧ h.get? p2 = some (PySem.W.tabObj #[])) : ∀ p ∈ [(c1, p1), (c2, p2)], h.get? p.2 = some { cls := .none, data := .fields #[] } := by
  intro p m
  rcases List.mem_cons.mp m with rfl | m
  · exact a.2
  · rw [List.mem_singleton.mp m]
    exact b.2
theorem tabsK_of {K : PySem.W.Frag} {c1 p1 c2 p2 : Addr} (a : K.lookup p1 = none) (b : K.lookup p2 = none) : ∀ p ∈ [(c1, p1), (c2, p2)], K.lookup p.2 = none := by
  intro p m
  rcases List.mem_cons.mp m with rfl | m
  · exact a
  · rw [List.mem_singleton.mp m]
    exact b
theorem tabsC_of {h : Heap} {c1 p1 c2 p2 : Addr} (a : PySem.W.CodeHd h c1 p1 ∧ h.get? p1 = some (PySem.W.tabObj #[])) (b : PySem.W.CodeHd h c2 p2 ∧ h.get? p2 = some (PySem.W.tabObj #[])) : ∀ p ∈ [(c1, p1), (c2, p2)], PySem.W.CodeHd h p.1 p.2 := by
  intro p m
  rcases List.mem_cons.mp m with rfl | m
  · exact a.1
  · rw [List.mem_singleton.mp m]
    exact b.1
end Cu

namespace Cu
open PySem PySem.Spec PyProof.Rows L2
/-! ### t[::-1] of a tuple -/
section
variable {prog : Program} {w : World} {A : Around} {E : Value → Shared → Prop} {s : Shared}
theorem places_back (n : Nat) : Builtin.Slice.slicePlaces ((n : Int) - 1) (-1) (-1) = n := by
  unfold Builtin.Slice.slicePlaces
  have h1 : ¬ ((-1 : Int) > 0) := by decide
  rw [if_neg h1]
  split
  · rw [show (- -1 : Int) = 1 by decide, Int.ediv_one]
    omega
  · omega
theorem fm_congr {α β : Type} {f g : α → Option β} : ∀ (l : List α), (∀ k ∈ l, f k = g k) → l.filterMap f = l.filterMap g
  | [], _ => rfl
  | a :: r, h => by
    rw [List.filterMap_cons, List.filterMap_cons, h a List.mem_cons_self, fm_congr r fun k m => h k (List.mem_cons_of_mem _ m)]
theorem pick_back (xs : Array Value) : ((List.range xs.size).filterMap fun (k : Nat) => xs[((xs.size : Int) - 1 + (k : Int) * -1).toNat]?).toArray = xs.toList.reverse.toArray := by
  have e : (List.range xs.size).filterMap (fun (k : Nat) => xs[((xs.size : Int) - 1 + (k : Int) * -1).toNat]?) = ((List.range xs.size).map (fun k => xs.size - 1 - k)).filterMap (fun k => xs[k]?) := by
    rw [List.filterMap_map]
    apply fm_congr
    intro k m
    have := List.mem_range.mp m
    show xs[((xs.size : Int) - 1 + (k : Int) * -1).toNat]? = xs[xs.size - 1 - k]?
    rw [show ((xs.size : Int) - 1 + (k : Int) * -1).toNat = xs.size - 1 - k by omega]
  rw [e, PySem.W.krv_range, List.filterMap_reverse, PySem.W.krv_all]
theorem applied_back {sl : Addr} {vs : Value} {n : Nat} {Q : Int × Int × Nat → Shared → Prop} (hs : s.heap.IsSliceOf sl .none .none vs) (ps : IsPart vs (some (-1))) (h : Q ((n : Int) - 1, -1, n) s) :
    wpAny (model prog w) A (Builtin.Slice.sliceApplied (.ref sl) (pure (n : Int))) Q E s := by
  obtain ⟨os, hos, hcs, hds⟩ := id hs
  unfold Builtin.Slice.sliceApplied Builtin.Slice.sliceFields
  refine wpAny_bind (wpAny_bind (wpAny_field hos hds (x := .none) rfl (wpAny_bind (wpAny_field hos hds (x := .none) rfl (wpAny_bind (wpAny_field hos hds (x := vs) rfl (wpAny_pure ?_)))))))
  refine wpAny_bind (HT.slicePart_ ps ?_)
  show wpAny _ _ (if ((-1 : Int) == 0) = true then _ else _) _ _ s
  rw [if_neg (by decide)]
  refine wpAny_bind (HT.slicePart_ .none (wpAny_bind (HT.slicePart_ .none (wpAny_bind (wpAny_pure ?_)))))
  show wpAny _ _ (pure ((n : Int) - 1, (-1 : Int), Builtin.Slice.slicePlaces ((n : Int) - 1) (-1) (-1))) _ _ s
  rw [places_back]
  exact wpAny_pure h
theorem get_back {t sl : Addr} {items : Array Value} {vs : Value} {Q : Value → Shared → Prop} (ht : IsTup s.heap t items) (hs : s.heap.IsSliceOf sl .none .none vs) (ps : IsPart vs (some (-1)))
    (h : Q (.ref s.heap.objs.size) { s with heap := s.heap.push { cls := .type "tuple", data := .seq items.toList.reverse.toArray } }) (hsz : items.size ≤ sizeLine) : wpAny (model prog w) A (getItem (.ref t) (.ref sl)) Q E s := by
  have fits : sizeOk (.seq items.toList.reverse.toArray) := by
    show items.toList.reverse.toArray.size ≤ sizeLine
    rw [List.size_toArray, List.length_reverse, Array.length_toList]
    exact hsz
  obtain ⟨os, hos, hcs, hds⟩ := id hs
  have isSl : s.TypeIs (.ref sl) "slice" := ⟨os, hos, hcs⟩
  unfold getItem
  try with_reducible refine wpAny_holding ?_
  first | refine wpAny_bind (wpAny_pure ?_) | skip
  refine wpAny_bind (wpAny_sequenceKey ht.typeIs (by decide) ?_)
  refine wpAny_bind (wpAny_callSpecial?_slot (name := Str.ofString "__getitem__") ht.typeIs PyProof.Rows.slot_tuple_getitem
    (wpAny_call_entry PyProof.Rows.slot_tuple_getitem ht.typeIs entry_tuple_getitem ?_ (args_tuple_getitem _ _)))
  show wpAny _ _ (Builtin.Tuple.tupleItemsOf (.ref t) >>= _) _ _ s
  refine wpAny_bind (tupleItemsOf_ ht ?_)
  refine wpAny_bind (wpAny_typeOf isSl ?_)
  rw [if_pos (by decide)]
  refine wpAny_bind (applied_back hs ps ?_)
  have no : ¬ ((((items.size : Int) - 1) == 0 && (-1 : Int) == 1 && items.size == items.size) = true) := by
    intro q
    rw [Bool.and_eq_true, Bool.and_eq_true] at q
    exact absurd (eq_of_beq q.1.2) (by decide)
  show wpAny _ _ (if (((items.size : Int) - 1) == 0 && (-1 : Int) == 1 && items.size == items.size) = true then _ else _) _ _ s
  rw [if_neg no, pick_back]
  first
    | exact wpAny_bind (m := Builtin.Tuple.tupleExact _) (wpAny_newObj_type (wpAny_pure ⟨_, rfl, wpAny_pure h⟩) fits)
    | exact wpAny_bind (m := Builtin.Tuple.tupleExact _) (wpAny_newObj_type (wpAny_bind (wpAny_pure (wpAny_pure ⟨_, rfl, wpAny_pure h⟩))) fits)
    | exact wpAny_bind (wpAny_bind (m := Builtin.Tuple.tupleExact _) (wpAny_newObj_type (wpAny_pure (wpAny_pure ⟨_, rfl, wpAny_pure h⟩)) fits))
    | exact wpAny_bind (wpAny_bind (m := Builtin.Tuple.tupleExact _) (wpAny_newObj_type (wpAny_pure ⟨_, rfl, wpAny_pure h⟩) fits))
end
section
variable {X : Cx}
def tRevT (K : PySem.W.Frag) (te : TE) : TE := fun σ H Q => te σ H fun x H1 => ∃ a xs, x = .ref a ∧ SqT K H1 a xs ∧ ∀ p, H1 p = none → Q (.ref p) (upd H1 p (.tup xs.reverse))
theorem pe_revT {e : Expr} {te : TE} {k : Nat} {p1 p2 p3 pos : Pos} (he : PE X e te) : PE X (.Subscript e (.Slice none none (some (.UnaryOp .USub (.Constant (.int 1) k p1) p2)) p3) pos) (tRevT X.K te) := by
  constructor
  intro pins s σ H Q I h
  refine Subscript_ (thn (he.run pins s σ H _ I h) ?_)
  rintro v s1 ⟨x, H1, I1, r1, a, xs, rfl, hx, q⟩
  cases r1
  have step : PO X (some (.UnaryOp .USub (.Constant (.int 1) k p1) p2)) (tPart (tUn (rU fun i => .int (-i)) (tC (.int 1)))) := po_some (pe_un un_neg pe_int)
  refine wpAny_Slice (thn (po_none.run pins s1 σ H1 (fun o H2 => o = none ∧ H2 = H1) I1 ⟨rfl, rfl⟩) ?_)
  rintro vl s2 ⟨l, H2, I2, pl, el, e2⟩
  rw [e2] at I2
  rw [el] at pl
  refine thn (po_none.run pins s2 σ _ (fun o H3 => o = none ∧ H3 = H1) I2 ⟨rfl, rfl⟩) ?_
  rintro vu s3 ⟨u, H3, I3, pu, eu, e3⟩
  rw [e3] at I3
  rw [eu] at pu
  refine thn (step.run pins s3 σ _ (fun o H4 => o = some (-1) ∧ H4 = H1) I3 ⟨1, rfl, -1, rfl, rfl, rfl⟩) ?_
  rintro vs s4 ⟨o, H4, I4, ps, eo, e4⟩
  rw [e4] at I4
  rw [eo] at ps
  cases pl
  cases pu
  have I5 : Inv X pins σ H1 { s4 with heap := s4.heap.push { cls := .type "slice", data := .fields #[.none, .none, vs] } } := I4.kept (t' := s4.toks) fun b ob q => Heap.get?_push_of_some _ q
  obtain ⟨its, r, ht, hz⟩ := I5.tuple hx
  have len := r.length
  show wpAny (model X.prog X.w) X.A (subscriptTail e (.Slice none none (some (.UnaryOp .USub (.Constant (.int 1) k p1) p2)) p3) (.ref a) (.ref s4.heap.objs.size)) (EP X pins σ Q) X.xe { s4 with heap := s4.heap.push { cls := .type "slice", data := .fields #[.none, .none, vs] } }
  refine tail_any (ops := [.ref a, .ref s4.heap.objs.size]) ht.typeIs (PyProof.Rows.slot_tuple_getitem.lookup) ?_ (by with_unfolding_all rfl)
  refine get_back ht (Heap.IsSliceOf.new _ _ _ vs) ps ?_ (by rw [List.size_toArray]; omega)
  refine ⟨.ref _, _, I5.laid (t' := s4.toks) (o := .tup xs.reverse) (fun b ob q => Heap.get?_push_of_some _ q) (Nat.le_refl _) ?_, rfl, q _ (I5.hok.fresh (Nat.le_refl _))⟩
  refine ⟨?_, _, r.reverse, IsTup.new _ _⟩
  rw [List.length_reverse]
  exact hz
end
end Cu

namespace Cu
open PySem PySem.Spec PyProof.Rows L2
/-! ### the text -/
def topS (i : Nat) : Stmt := PySem.Challenge.pw_crossundo_k17_whole_fewest_changes.main.body.getD i (.Pass ⟨0, 0, 0, 0⟩)
/-- a def that stands, is named, and binds its arguments -/
structure Df (K : PySem.W.Frag) (mg : Str → Option Value) (nm : Str) (st : Stmt) (ps : List Str) (f : Addr) (fd : FuncData) : Prop where
  F : Fun K nm nm st f fd
  g : mg nm = some (.ref f)
  b : Binds K fd ps []
/-- the builtins' names are free -/
structure Bl (mg : Str → Option Value) : Prop where
  len : mg "len" = none
  abs : mg "abs" = none
  int : mg "int" = none
  range : mg "range" = none
  repr : mg "repr" = none
  max : mg "max" = none
  min : mg "min" = none
  all : mg "all" = none
  ord : mg "ord" = none
  isinstance : mg "isinstance" = none
  str : mg "str" = none
  bool : mg "bool" = none
  tuple : mg "tuple" = none
  list : mg "list" = none
  sorted : mg "sorted" = none
  set : mg "set" = none
  dict : mg "dict" = none
  any : mg "any" = none
  zip : mg "zip" = none
  enumerate : mg "enumerate" = none
abbrev sHand : Stmt := topS 18
abbrev sTake : Stmt := topS 19
abbrev sOf : Stmt := topS 20
theorem scH : FnScope ["_law_script", "_law_k", "_law_cell", "_law_great"] ["_law_script", "_law_k"] (defScope sHand) := ⟨rfl, rfl, rfl, by decide +kernel, rfl, by decide +kernel, by decide +kernel⟩
theorem scT : FnScope ["_law_hand_here", "_law_many", "_law_digit", "_law_prime", "_law_drawn"] ["_law_hand_here", "_law_many"] (defScope sTake) := ⟨rfl, rfl, rfl, by decide +kernel, rfl, by decide +kernel, by decide +kernel⟩
theorem scO : FnScope ["_law_hand_here", "_law_some"] ["_law_hand_here", "_law_some"] (defScope sOf) := ⟨rfl, rfl, rfl, by decide +kernel, rfl, by decide +kernel, by decide +kernel⟩
section
variable {P : Program} {w : World} {K : PySem.W.Frag} {mg : Str → Option Value} {base : Heap}
/-! ### _law_hand -/
def spHand (K : PySem.W.Frag) : Sp := fun vs H Q _ => ∃ (a : Addr) (k : Int) (ns : List Int), vs = [.ref a, .int k] ∧ SqL K H a (ns.map V.int) ∧ 0 ≤ k ∧ k < 1000 ∧ ∀ H' p, Same H H' → H p = none → Hand H' p 0 → Q (.ref p) H'
theorem big_pos : (0 : Int) < 10 ^ (60 : Int).toNat * 10 ^ (60 : Int).toNat * 10 ^ (60 : Int).toNat := by decide +kernel
theorem big_lt : (10 : Int) ^ (60 : Int).toNat * 10 ^ (60 : Int).toNat * 10 ^ (60 : Int).toNat < 2 ^ 600 := by decide +kernel
theorem ok_hand {f : Addr} {fd : FuncData} {k : Nat} (F : Fun K "_law_hand" "_law_hand" sHand f fd) (T : Bl mg) : FnOk P w K mg base CX0 (k + 1) f fd ["_law_script", "_law_k"] (spHand K) := by
  refine F.ok scH (fun vs H Q E h => ?_) (fun cdv A outer s H vs Q E hr h => ?_)
  · obtain ⟨a, k, ns, rfl, _⟩ := h
    rfl
  · obtain ⟨a, k, ns, rfl, hS, hk0, hk1, q⟩ := h
    refine ⟨_, (pss_cons (ps_set (i := 2) scH.nd rfl (.inl rfl) (pe_ifExp (pt_cmpR op_lt (pv 1) (pe_callB call_len_seq (by rfl) T.len PySem.boot_len (pa_cons (pv 0) pa_nil)) (nomark _)) (pe_ix ix_list (pv 0) (pv 1) (fun _ _ => rfl)) pe_int))
  (pss_cons (ps_set (i := 3) scH.nd rfl (.inl rfl) (pe_op op_mul (pe_op op_mod (pe_callB call_abs (by rfl) T.abs (by decide +kernel) (pa_cons (pv 2) pa_nil)) (pe_op op_mulW (pe_op op_mulW (pe_op op_pow pe_int pe_int) (pe_op op_pow pe_int pe_int)) (pe_op op_pow pe_int pe_int))) (pe_callTy call_int1 (by rfl) T.int (by decide +kernel) (pa_cons (pe_cmpR op_ge (pe_callB call_abs (by rfl) T.abs (by decide +kernel) (pa_cons (pv 2) pa_nil)) (pe_op op_pow pe_int pe_int) (nomark _)) pa_nil))))
  (pss_one (ps_ret (pe_lst (pa_cons (pv 3) (pa_cons (pe_op op_mod (pe_op op_mul (pe_op op_add (pe_op op_add (pe_op op_mod (pv 2) pe_int) (pe_op op_mul pe_int (pv 1))) pe_int) pe_int) pe_int) (pa_cons pe_int pa_nil)))))))), ?_⟩
    refine ⟨.int k, rfl, .ref a, rfl, a, _, rfl, .inl hS, _, _, rfl, rfl, _, rfl, ?_⟩
    refine ifx (fun v => ∃ c : Int, v = .int c) (fun hb all => ?_) ⟨0, rfl⟩ ?_
    · have hb' : k < ((ns.map V.int).length : Int) := of_decide_eq_true hb
      obtain ⟨v, e1, e2⟩ := at_of hk0 hb'
      refine ⟨.ref a, rfl, .int k, rfl, a, _, k, v, rfl, rfl, hS, e2, all v ?_⟩
      rw [List.getElem?_map] at e1
      obtain ⟨z, _, rfl⟩ := Option.map_eq_some_iff.mp e1
      exact ⟨z, rfl⟩
    · rintro v ⟨c, rfl⟩
      refine ⟨.int c, rfl, c, rfl, 10, 60, rfl, rfl, ⟨by decide, by decide, by decide⟩, 10, 60, rfl, rfl, ⟨by decide, by decide, by decide⟩, _, _, rfl, rfl, wide_mul (a := 200) (b := 200) (by decide +kernel) (by decide +kernel) (by decide) (by decide) (by decide),
        10, 60, rfl, rfl, ⟨by decide, by decide, by decide⟩, _, _, rfl, rfl, wide_mul (a := 400) (b := 200) (by decide +kernel) (by decide +kernel) (by decide) (by decide) (by decide), _, _, rfl, rfl, big_pos, ?_⟩
      refine ⟨.int c, rfl, c, rfl, 10, 18, rfl, rfl, ⟨by decide, by decide, by decide⟩, _, _, rfl, rfl, .inr ⟨_, rfl, _, _, rfl, rfl, .inr ?_, ?_⟩⟩
      · exact b01 _
      · have m0 : ∀ z : Int, 0 ≤ z % (10 ^ (60 : Int).toNat * 10 ^ (60 : Int).toNat * 10 ^ (60 : Int).toNat) := fun z => Int.emod_nonneg z (Int.ne_of_gt big_pos)
        have m1 : ∀ z : Int, z % (10 ^ (60 : Int).toNat * 10 ^ (60 : Int).toNat * 10 ^ (60 : Int).toNat) < 2 ^ 600 := fun z => Int.lt_trans (Int.emod_lt_of_pos z big_pos) big_lt
        have n0 : 0 ≤ c % 2147483629 := Int.emod_nonneg c (by decide)
        have n1 : c % 2147483629 < 2147483629 := Int.emod_lt_of_pos c (by decide)
        refine ⟨_, rfl, .int c, rfl, c, 2147483629, rfl, rfl, (show (0 : Int) < 2147483629 by decide), .int k, rfl, 7919, k, rfl, rfl, .inl ⟨by decide, by decide⟩, _, _, rfl, rfl, _, 13, rfl, rfl, _, 48271, rfl, rfl, .inr ⟨by decide, by decide⟩, _, 2147483647, rfl, rfl,
          (show (0 : Int) < 2147483647 by decide), ?_, fun p np => q _ p (same_upd np) np ⟨_, _, 0, upd_same, (b01_mul _ (m0 _) (m1 _)).1, (b01_mul _ (m0 _) (m1 _)).2, Int.emod_nonneg _ (by decide), Int.emod_lt_of_pos _ (by decide), by decide, by decide⟩⟩
        show 3 ≤ sizeLine
        decide
/-! ### _law_take -/
def spTake : Sp := fun vs H Q _ => ∃ (a : Addr) (m : Int) (n : Nat), vs = [.ref a, .int m] ∧ Hand H a n ∧ n < 2 ^ 40 ∧ 0 < m ∧ m < 1073741824 ∧ ∀ H' d, Upto a H H' → Hand H' a (n + 1) → 0 ≤ d → d < m → Q (.int d) H'
theorem prime_of {r : Int} (h0 : 0 ≤ r) (h1 : r < 5) : ∃ p : Int, atI [V.int 2147483647, .int 2147483629, .int 2147483587, .int 2147483579, .int 2147483563] r = some (.int p) ∧ 0 < p := by
  obtain rfl | rfl | rfl | rfl | rfl : r = 0 ∨ r = 1 ∨ r = 2 ∨ r = 3 ∨ r = 4 := by omega
  · exact ⟨_, rfl, by decide⟩
  · exact ⟨_, rfl, by decide⟩
  · exact ⟨_, rfl, by decide⟩
  · exact ⟨_, rfl, by decide⟩
  · exact ⟨_, rfl, by decide⟩
theorem ok_take {f : Addr} {fd : FuncData} {k : Nat} (F : Fun K "_law_take" "_law_take" sTake f fd) (T : Bl mg) : FnOk P w K mg base CX0 (k + 1) f fd ["_law_hand_here", "_law_many"] spTake := by
  refine F.ok scT (fun vs H Q E h => ?_) (fun cdv A outer s H vs Q E hr h => ?_)
  · obtain ⟨a, m, n, rfl, _⟩ := h
    rfl
  · obtain ⟨a, m, n, rfl, ⟨g, x, c, e, g0, g1, x0, x1, c0, c1⟩, hn, m0, m1, q⟩ := h
    refine ⟨_, (pss_cons (ps_if (pt_cmpR op_gt (pe_ix ix_list (pv 0) pe_int (fun _ _ => rfl)) pe_int (nomark _))
  (pss_cons (ps_set (i := 2) scT.nd rfl (.inl rfl) (pe_op op_mod (pe_ix ix_list (pv 0) pe_int (fun _ _ => rfl)) (pv 1)))
  (pss_cons (ps_asg (pe_op op_fdiv (pe_ix ix_list (pv 0) pe_int (fun _ _ => rfl)) (pv 1)) (pg_sub (pv 0) pe_int set_list))
  (pss_one (ps_ret (pv 2)))))
  pss_nil)
  (pss_cons (ps_asg (pe_op op_add (pe_ix ix_list (pv 0) pe_int (fun _ _ => rfl)) pe_int) (pg_sub (pv 0) pe_int set_list))
  (pss_cons (ps_set (i := 3) scT.nd rfl (.inl rfl) (pe_ix ix_list (pe_lst (pa_cons pe_int (pa_cons pe_int (pa_cons pe_int (pa_cons pe_int (pa_cons pe_int pa_nil)))))) (pe_op op_mod (pe_ix ix_list (pv 0) pe_int (fun _ _ => rfl)) pe_int) (fun _ _ => rfl)))
  (pss_cons (ps_set (i := 4) scT.nd rfl (.inl rfl) (pe_op op_mod (pe_op op_pow (pe_op op_add (pe_ix ix_list (pv 0) pe_int (fun _ _ => rfl)) (pe_op op_mul pe_int (pe_ix ix_list (pv 0) pe_int (fun _ _ => rfl)))) pe_int) (pv 3)))
  (pss_one (ps_ret (pe_op op_mod (pe_op op_fdiv (pe_op op_mod (pe_op op_mul (pv 4) (pe_op op_add (pe_op op_mod (pv 4) pe_int) (pe_ix ix_list (pv 0) pe_int (fun _ _ => rfl)))) (pv 3)) pe_int) (pv 1)))))))), ?_⟩
    refine ⟨.ref a, rfl, a, _, 0, .int g, rfl, rfl, SqL.of e, rfl, g, 0, rfl, rfl, _, rfl, ite2 (fun hb => ?_) (fun hb => ?_)⟩
    · refine ⟨.ref a, rfl, a, _, 0, .int g, rfl, rfl, SqL.of e, rfl, .int m, rfl, g, m, rfl, rfl, m0, ?_⟩
      refine ⟨.ref a, rfl, a, _, 0, .int g, rfl, rfl, SqL.of e, rfl, .int m, rfl, g, m, rfl, rfl, ⟨m0, m1⟩, .ref a, rfl, a, _, 0, 0, rfl, rfl, e, rfl, ?_⟩
      refine ⟨_, rfl, q _ _ Upto.upd ⟨_, x, c, upd_same, Int.ediv_nonneg g0 (by omega), ?_, x0, x1, c0, by omega⟩ (Int.emod_nonneg _ (by omega)) (Int.emod_lt_of_pos _ m0)⟩
      exact Int.lt_of_le_of_lt (Int.ediv_le_self _ g0) g1
    · refine ⟨.ref a, rfl, a, _, 2, .int c, rfl, rfl, SqL.of e, rfl, c, 1, rfl, rfl, .ref a, rfl, a, _, 2, 2, rfl, rfl, e, rfl, ?_⟩
      have e1 : (upd H a (.lst [.int g, .int x, .int (c + 1)])) a = some (.lst [.int g, .int x, .int (c + 1)]) := upd_same
      refine ⟨by show 5 ≤ sizeLine; decide, fun l nl => ?_⟩
      have nla : a ≠ l := ne_of_none e1 nl
      have e2 : ∀ o, (upd (upd H a (.lst [.int g, .int x, .int (c + 1)])) l o) a = some (.lst [.int g, .int x, .int (c + 1)]) := fun o => by rw [upd_ne nla]; exact e1
      obtain ⟨p, hp, p0⟩ := prime_of (r := (c + 1) % 5) (Int.emod_nonneg _ (by decide)) (Int.emod_lt_of_pos _ (by decide))
      refine ⟨.ref a, rfl, a, _, 2, .int (c + 1), rfl, rfl, SqL.of (e2 _), rfl, c + 1, 5, rfl, rfl, (show (0 : Int) < 5 by decide), l, _, _, _, rfl, rfl, SqL.of upd_same, hp, ?_⟩
      refine ⟨.ref a, rfl, a, _, 1, .int x, rfl, rfl, SqL.of (e2 _), rfl, .ref a, rfl, a, _, 2, .int (c + 1), rfl, rfl, SqL.of (e2 _), rfl, 7919, c + 1, rfl, rfl, .inl ⟨by decide, by decide⟩, x, _, rfl, rfl, _, 3, rfl, rfl, ⟨by decide, by decide, by omega⟩, .int p, rfl, _, p, rfl, rfl, p0, ?_⟩
      refine ⟨_, rfl, _, rfl, _, 1009, rfl, rfl, (show (0 : Int) < 1009 by decide), .ref a, rfl, a, _, 2, .int (c + 1), rfl, rfl, SqL.of (e2 _), rfl, _, _, rfl, rfl, _, _, rfl, rfl, .inr ?_, .int p, rfl, _, p, rfl, rfl, p0, _, 11, rfl, rfl, ⟨by decide, by decide⟩, .int m, rfl, _, m, rfl, rfl, m0, ?_⟩
      · have := Int.emod_nonneg ((x + 7919 * (c + 1)) ^ (3 : Int).toNat % p) (show (1009 : Int) ≠ 0 by decide)
        have := Int.emod_lt_of_pos ((x + 7919 * (c + 1)) ^ (3 : Int).toNat % p) (show (0 : Int) < 1009 by decide)
        constructor <;> omega
      · refine q _ _ ((Upto.upd).trans (.new nl)) ⟨g, x, c + 1, e2 _, g0, g1, x0, x1, by omega, by omega⟩ (Int.emod_nonneg _ (by omega)) (Int.emod_lt_of_pos _ m0)
/-! ### _law_of, of a text -/
def spOfS : Sp := fun vs H Q _ => ∃ (a : Addr) (z : Str) (n : Nat), vs = [.ref a, .str z] ∧ Hand H a n ∧ n < 2 ^ 40 ∧ 0 < z.length ∧ z.length ≤ 1000 ∧ ∀ H' c, Upto a H H' → Hand H' a (n + 1) → c ∈ z.cps.toList → Q (.str ⟨#[c]⟩) H'
theorem ok_ofS {f fT : Addr} {fd fdT : FuncData} {k : Nat} (F : Fun K "_law_of" "_law_of" sOf f fd) (DT : Df K mg "_law_take" sTake ["_law_hand_here", "_law_many"] fT fdT) (T : Bl mg) : FnOk P w K mg base CX0 (k + 2) f fd ["_law_hand_here", "_law_some"] spOfS := by
  have GT : FnOk P w K mg base CX0 1 fT fdT _ spTake := ok_take DT.F T
  refine F.ok scO (fun vs H Q E h => ?_) (fun cdv A outer s H vs Q E hr h => ?_)
  · obtain ⟨a, m, n, rfl, _⟩ := h
    rfl
  · obtain ⟨a, z, n, rfl, hH, hn, z0, z1, q⟩ := h
    refine ⟨_, (pss_one (ps_ret (pe_ix ix_str (pv 1) (pe_call GT (hr.mono (by omega)) (by rfl) DT.g DT.F.kp DT.b .nil pass0 (pa_cons (pv 0) (pa_cons (pe_callB call_len_str (by rfl) T.len PySem.boot_len (pa_cons (pv 1) pa_nil)) pa_nil))) (fun _ _ => rfl)))), ?_⟩
    have zl : z.length ≤ sizeLine := Nat.le_trans z1 (by decide)
    refine ⟨.str z, rfl, .ref a, rfl, .str z, rfl, z, rfl, zl, a, _, n, rfl, hH, hn, by omega, by omega, fun H' d u h' d0 d1 => ?_⟩
    obtain ⟨c, e1, e2⟩ := at_of (xs := z.cps.toList) d0 (by rw [Array.length_toList]; exact d1)
    exact ⟨z, d, c, rfl, rfl, zl, e2, q H' c u h' (List.mem_of_getElem? e1)⟩
/-! ### _law_of, of a list -/
def spOfL : Sp := fun vs H Q _ => ∃ (a l : Addr) (xs : List V) (n : Nat), vs = [.ref a, .ref l] ∧ Hand H a n ∧ n < 2 ^ 40 ∧ l ≠ a ∧ H l = some (.lst xs) ∧ 0 < xs.length ∧ xs.length ≤ 1000 ∧ ∀ H' v, Upto a H H' → Hand H' a (n + 1) → v ∈ xs → Q v H'
theorem ok_ofL {f fT : Addr} {fd fdT : FuncData} {k : Nat} (F : Fun K "_law_of" "_law_of" sOf f fd) (DT : Df K mg "_law_take" sTake ["_law_hand_here", "_law_many"] fT fdT) (T : Bl mg) : FnOk P w K mg base CX0 (k + 2) f fd ["_law_hand_here", "_law_some"] spOfL := by
  have GT : FnOk P w K mg base CX0 1 fT fdT _ spTake := ok_take DT.F T
  refine F.ok scO (fun vs H Q E h => ?_) (fun cdv A outer s H vs Q E hr h => ?_)
  · obtain ⟨a, l, xs, n, rfl, _⟩ := h
    rfl
  · obtain ⟨a, l, xs, n, rfl, hH, hn, la, el, x0, x1, q⟩ := h
    refine ⟨_, (pss_one (ps_ret (pe_ix ix_list (pv 1) (pe_call GT (hr.mono (by omega)) (by rfl) DT.g DT.F.kp DT.b .nil pass0 (pa_cons (pv 0) (pa_cons (pe_callB call_len_seq (by rfl) T.len PySem.boot_len (pa_cons (pv 1) pa_nil)) pa_nil))) (fun _ _ => rfl)))), ?_⟩
    refine ⟨.ref l, rfl, .ref a, rfl, .ref l, rfl, l, xs, rfl, .inl (SqL.of el), a, _, n, rfl, hH, hn, by omega, by omega, fun H' d u h' d0 d1 => ?_⟩
    obtain ⟨v, e1, e2⟩ := at_of (xs := xs) d0 d1
    exact ⟨l, xs, d, v, rfl, rfl, SqL.of (u l _ la el), e2, q H' v u h' (List.mem_of_getElem? e1)⟩
end
end Cu

namespace Cu
open PySem PySem.Spec PyProof.Rows L2
/-! ### a generator expression whose element may do anything that St bears -/
abbrev gLoop (elt iter : Expr) (x : Str) (px : Pos) (scope : Scope) (pos : Pos) (I : Addr) (cenv : Env) : Code := .compLoop (.GeneratorExp elt [⟨.Name x px, iter, [], 0⟩] scope pos) 0 (.ref I) .none cenv
abbrev gStart (elt iter : Expr) (x : Str) (px : Pos) (scope : Scope) (pos : Pos) (I : Addr) (cenv : Env) : Code := .compStart (.GeneratorExp elt [⟨.Name x px, iter, [], 0⟩] scope pos) 0 (.ref I) .none cenv
/-- what its turns do; A: around its frame -/
structure Turns (prog : Program) (w : World) (A : Around) (elt : Expr) (x : Str) (px : Pos) (I : Addr) (cenv : Env) (n : Nat) (tr : Nat → Bool) (St : Nat → Shared → Prop) (Fi : Shared → Prop) : Prop where
  item : ∀ (i : Nat) (s : Shared) (E : Value → Shared → Prop), i < n → St i s → wpAny (model prog w) A (pyNext (.ref I)) (fun o s1 => ∃ v, o = some v ∧ wpAny (model prog w) A (letOwnedTupleGo (.Name x px) (.ref I) v) (fun _ s1 =>
    wpAny (model prog w) A (assign (.Name x px) cenv v) (fun _ s2 => wpAny (model prog w) A (eval elt cenv) (fun y s3 => y = .bool (tr i) ∧ St (i + 1) s3) E s2) E s1) E s1) E s
  done : ∀ (s : Shared) (E : Value → Shared → Prop), St n s → wpAny (model prog w) A (pyNext (.ref I)) (fun o s1 => o = none ∧ Fi s1) E s
  self : ∀ (s : Shared) (E : Value → Shared → Prop), St 0 s → wpAny (model prog w) A (pyIter (.ref I)) (fun y s1 => y = .ref I ∧ St 0 s1) E s
section
variable {prog : Program} {w : World} {A : Around} {elt iter : Expr} {x : Str} {px : Pos} {scope : Scope} {pos : Pos} {I : Addr} {cenv : Env} {n : Nat} {tr : Nat → Bool} {St : Nat → Shared → Prop} {Fi : Shared → Prop}
def gEnd (Fi : Shared → Prop) : GenEnd := fun m s₀ r s₁ => r = .ok .next ∧ (m = 0 ∧ Fi s₁)
def gProto (n : Nat) (tr : Nat → Bool) (St : Nat → Shared → Prop) : Protocol := fun m s₀ v s kap => ∃ i, i + 1 + m = n ∧ v = .bool (tr i) ∧ St (i + 1) s ∧ ∀ s'', St (i + 1) s'' → kap (.send .none) s''
theorem seg_loop (hco : cenv.scope.isCoroutine = false) (T : Turns prog w (A.over (gLoop elt iter x px scope pos I cenv) []) elt x px I cenv n tr St Fi) : ∀ (k i : Nat) (s₀ s : Shared), n - i = k → i ≤ n → St i s →
    Seg (model prog w) A (gEnd Fi) (gProto n tr St) k s₀ (gLoop elt iter x px scope pos I cenv) ((model prog w).den (gLoop elt iter x px scope pos I cenv)) [] s := by
  intro k
  induction k with
  | zero =>
    intro i s₀ s hk hi hst
    have hin : i = n := by omega
    subst hin
    show Seg _ A _ _ _ s₀ _ ((compTurn (.GeneratorExp elt [⟨.Name x px, iter, [], 0⟩] scope pos) 0 (.ref I) .none cenv).onRaise (leaving cenv)) [] s
    rw [compTurn_gen, Sem.onRaise_eq_wrap]
    refine seg_bind_wrap (wpAny_standAt ?_)
    refine seg_bind_wrap (wpAny_mono (T.done s _ hst) ?_ fun _ _ e => e)
    rintro o s1 ⟨rfl, h1⟩
    exact seg_end (.ok .next) ⟨rfl, rfl, h1⟩
  | succ k ih =>
    intro i s₀ s hk hi hst
    have hlt : i < n := by omega
    show Seg _ A _ _ _ s₀ _ ((compTurn (.GeneratorExp elt [⟨.Name x px, iter, [], 0⟩] scope pos) 0 (.ref I) .none cenv).onRaise (leaving cenv)) [] s
    rw [compTurn_gen, Sem.onRaise_eq_wrap]
    refine seg_bind_wrap (wpAny_standAt ?_)
    refine seg_bind_wrap (wpAny_mono (T.item i s _ hlt hst) ?_ fun _ _ e => e)
    rintro o s1 ⟨v, rfl, h1⟩
    refine seg_bind_wrap (wpAny_mono h1 (fun _ s1 h1 => ?_) fun _ _ e => e)
    refine seg_bind_wrap (wpAny_mono h1 (fun _ s2 h2 => ?_) fun _ _ e => e)
    simp only [List.forIn_nil]
    refine seg_bind_wrap (wpAny_pure ?_)
    simp only [if_true]
    have hy : ∀ v, yieldOut cenv v = yieldValue v := fun v => by simp only [yieldOut, hco, Bool.false_eq_true, if_false]
    simp only [hy]
    rw [Sem.bind_eq_wrap', Sem.bind_eq_wrap', Sem.wrap_wrap, Sem.wrap_wrap]
    refine seg_wrap (wpAny_mono h2 (fun y s3 h3 => ?_) fun _ _ e => e)
    obtain ⟨rfl, st3⟩ := h3
    refine seg_at (seg_yield rfl rfl rfl ⟨i, by omega, rfl, st3, fun s'' h'' => ?_⟩)
    exact seg_again rfl (ih (i + 1) s'' s'' (by omega) hlt h'')
theorem over_start : A.over (gStart elt iter x px scope pos I cenv) [] = A.over (gLoop elt iter x px scope pos I cenv) [] := rfl
theorem seg_start (hco : cenv.scope.isCoroutine = false) (T : Turns prog w (A.over (gLoop elt iter x px scope pos I cenv) []) elt x px I cenv n tr St Fi) (s₀ s : Shared) (hst : St 0 s) :
    Seg (model prog w) A (gEnd Fi) (gProto n tr St) n s₀ (gStart elt iter x px scope pos I cenv) ((model prog w).den (gStart elt iter x px scope pos I cenv)) [] s := by
  have loop := fun s h => seg_loop (iter := iter) (scope := scope) (pos := pos) hco T n 0 s₀ s (Nat.sub_zero _) (Nat.zero_le _) h
  show Seg _ A _ _ _ s₀ _ ((compStart (.GeneratorExp elt [⟨.Name x px, iter, [], 0⟩] scope pos) 0 (.ref I) .none cenv).onRaise (leaving cenv)) [] s
  unfold compStart
  rw [Sem.onRaise_eq_wrap]
  show Seg _ A _ _ _ s₀ _ ((ask >>= _).wrap _ _ _ _) [] s
  refine seg_bind_wrap (wpAny_askSetting ?_)
  have T1 : ∀ E, wpAny (model prog w) (A.over (gStart elt iter x px scope pos I cenv) []) (pyIter (.ref I)) (fun y s1 => y = .ref I ∧ St 0 s1) E s := fun E => T.self s E hst
  split
  · exact seg_again rfl (loop s hst)
  · first
      | exact seg_bind_wrap (wpAny_rule (seg_bind_wrap (wpAny_standAt (seg_bind_wrap (wpAny_mono (T1 _) (fun y s1 ⟨e, h1⟩ => by subst e; exact seg_again rfl (loop s1 h1)) fun _ _ e => e)))))
      | (refine seg_bind_wrap (wpAny_rule ?_); show Seg _ A _ _ _ s₀ _ ((standAt iter.pos >>= _).wrap _ _ _ _) [] s; exact seg_bind_wrap (wpAny_standAt (seg_bind_wrap (wpAny_mono (T1 _) (fun y s1 ⟨e, h1⟩ => by subst e; exact seg_again rfl (loop s1 h1)) fun _ _ e => e))))
/-- what St must bear -/
structure Bears (a : Addr) (g : Nat) (St : Nat → Shared → Prop) (Fi : Shared → Prop) : Prop where
  gen : ∀ i s, St i s → s.heap.IsGen a g ∧ s.heap.NoLimit
  set : ∀ i s gs, gs.bare = true → St i s → St i (s.setGen g gs)
  fin : ∀ i s, St i s → Fi s
  setF : ∀ s gs, gs.bare = true → Fi s → Fi (s.setGen g gs)
  up : ∀ s h', (∀ b o, s.heap.get? b = some o → h'.get? b = some o) → Fi s → Fi { s with heap := h' }
/-- the generator sleeps before its i-th turn -/
def Sleeps (prog : Program) (w : World) (A : Around) (g : Nat) (n : Nat) (tr : Nat → Bool) (St : Nat → Shared → Prop) (Fi : Shared → Prop) (i : Nat) (s : Shared) : Prop :=
  St i s ∧ ∃ gs, s.gens[g]? = some gs ∧ ∀ s'', St i s'' → gs.Goes (model prog w) A.in1 (gEnd Fi) (gProto n tr St) (n - i) (.send .none) s''
variable {a : Addr} {g : Nat}
theorem lt_of_get {gens : Array GenState} {gs : GenState} (h : gens[g]? = some gs) : g < gens.size := by
  rcases Nat.lt_or_ge g gens.size with h' | h'
  · exact h'
  · rw [Array.getElem?_eq_none h'] at h
    cases h
theorem sleeps_item (hh : A.handled = none) (hroom : A.depth < recursionLimit) (B : Bears a g St Fi) {i : Nat} {s : Shared} {Q : Option Value → Shared → Prop} {E : Value → Shared → Prop} (hi : i < n) (h : Sleeps prog w A g n tr St Fi i s)
    (q : ∀ s', Sleeps prog w A g n tr St Fi (i + 1) s' → Q (some (.bool (tr i))) s') : wpAny (model prog w) A (pyNext (.ref a)) Q E s := by
  obtain ⟨st, gs, hgs, go⟩ := h
  obtain ⟨hg, hl⟩ := B.gen i s st
  obtain ⟨m, hm⟩ : ∃ m, n - i = m + 1 := ⟨n - i - 1, by omega⟩
  rw [hm] at go
  refine GenW.wpAny_gsz (n := g + 1) (lt_of_get hgs) ?_
  refine wpAny_pyNext_genexpQ (P := fun m _ s₁ => m = 0 ∧ Fi s₁) hh hl hroom hg hgs (go _ (B.set i s .running rfl st)) (fun v s₁ gs' hb hv => ?_) (fun s₁ hp h' hk => ?_)
  · obtain ⟨j, ej, rfl, st1, kap⟩ := hv
    have e : j = i := by omega
    subst e
    intro lt
    refine q _ ⟨B.set _ _ _ hb st1, gs', ?_, fun s'' h'' => ?_⟩
    · rw [GenW.setGen_size] at lt
      simp [Shared.setGen, show g < s₁.gens.size by omega]
    · rw [show n - (j + 1) = m by omega]
      exact kap s'' h''
  · exact absurd hp.1 (Nat.succ_ne_zero m)
theorem sleeps_done (hh : A.handled = none) (hroom : A.depth < recursionLimit) (B : Bears a g St Fi) {s : Shared} {Q : Option Value → Shared → Prop} {E : Value → Shared → Prop} (h : Sleeps prog w A g n tr St Fi n s)
    (q : ∀ s', Fi s' → Q none s') : wpAny (model prog w) A (pyNext (.ref a)) Q E s := by
  obtain ⟨st, gs, hgs, go⟩ := h
  obtain ⟨hg, hl⟩ := B.gen n s st
  rw [Nat.sub_self] at go
  refine wpAny_pyNext_genexpQ (P := fun m _ s₁ => m = 0 ∧ Fi s₁) hh hl hroom hg hgs (go _ (B.set n s .running rfl st)) (fun v s₁ gs' hb hv => ?_) (fun s₁ hp h' hk => ?_)
  · obtain ⟨j, ej, _, st1, kap⟩ := hv
    exact False.elim (kap s₁ st1)
  · exact q _ (B.up _ _ hk (B.setF _ _ rfl hp.2))
end
section
variable {prog : Program} {w : World} {A : Around} {R : Result → Shared → Prop} {n : Nat} {tr : Nat → Bool} {St : Nat → Shared → Prop} {Fi : Shared → Prop} {a : Addr} {g : Nat}
theorem truth_bool {b : Bool} {s : Shared} {A : Around} {Q : Bool → Shared → Prop} {E : Value → Shared → Prop} (q : Q b s) : wpAny (model prog w) A (truthy (.bool b)) Q E s := by
  first
    | exact wpAny_pure q
    | exact wpAny_truthy_bool q
    | (unfold truthy; exact wpAny_pure q)
/-- all(..) of it -/
theorem all_loop (hh : A.in1.handled = none) (hroom : A.in1.depth < recursionLimit) (B : Bears a g St Fi) : ∀ (k i : Nat) (s : Shared), n - i = k → i ≤ n → Sleeps prog w A.in1 g n tr St Fi i s →
    (∀ s', Fi s' → R (.ok (.ret (.bool (((List.range n).drop i).all tr)))) s') → codeAny (model prog w) A (.builtin "all.loop" ⟨[.ref a], []⟩) R s := by
  intro k
  induction k with
  | zero =>
    intro i s hk hi hst hR
    have hin : i = n := by omega
    subst hin
    refine codeAny_builtin F.entry_all_loop ?_
    rw [Around.under_plainId F.plain_all_loop _]
    show wpAny _ A.in1 (pyNext (.ref a) >>= _) _ _ s
    refine wpAny_bind (sleeps_done hh hroom B hst fun s' h' => ?_)
    refine wpAny_bind (wpAny_rule (wpAny_pure ?_))
    have := hR s' h'
    rw [List.drop_of_length_le (by simp)] at this
    exact this
  | succ k ih =>
    intro i s hk hi hst hR
    have hlt : i < n := by omega
    have hd : (List.range n).drop i = i :: (List.range n).drop (i + 1) := by
      rw [List.drop_eq_getElem_cons (by simpa using hlt)]; simp
    refine codeAny_builtin F.entry_all_loop ?_
    rw [Around.under_plainId F.plain_all_loop _]
    show wpAny _ A.in1 (pyNext (.ref a) >>= _) _ _ s
    refine wpAny_bind (sleeps_item hh hroom B hlt hst fun s' h' => ?_)
    refine wpAny_bind (wpAny_holding (truth_bool ?_))
    refine wpAny_bind (wpAny_letGo ?_)
    cases hb : tr i with
    | true =>
      simp only [if_true]
      refine wpAny_pure ⟨plainId_quiet F.plain_all_loop _, ih (i + 1) _ (by omega) hlt h' fun s'' hm' => ?_⟩
      have := hR s'' hm'
      rw [hd, List.all_cons, hb, Bool.true_and] at this
      exact this
    | false =>
      simp only [Bool.false_eq_true, if_false]
      refine wpAny_bind (wpAny_rule (wpAny_pure ?_))
      have := hR s' (B.fin _ _ h'.1)
      rw [hd, List.all_cons, hb, Bool.false_and] at this
      exact this
theorem call_allT {Q : Value → Shared → Prop} {E : Value → Shared → Prop} {s : Shared} (hh : A.handled = none) (hroom : A.depth < recursionLimit) (B : Bears a g St Fi) (h : Sleeps prog w A.in1 g n tr St Fi 0 s) (q : ∀ s', Fi s' → Q (.bool ((List.range n).all tr)) s') :
    wpAny (model prog w) A (call (.builtin "all") [.ref a]) Q E s := by
  refine call_function_tree F.kind_all F.plain_all F.entry_all (F.args_all1 _) ?_
  unfold Builtin.«all»
  refine wpAny_bind (m := oneArg "all" _) (wpAny_pure ?_)
  refine wpAny_bind (wpAny_pyIter_gen (B.gen 0 s h.1).1 ?_)
  exact wpAny_pure ⟨plainId_quiet F.plain_all_loop _, all_loop hh hroom B n 0 s (Nat.sub_zero _) (Nat.zero_le _) h fun s' hm => by simpa using q s' hm⟩
end
end Cu

namespace Cu
open PySem PySem.Spec PyProof.Rows L2
/-! ### all(elt for x in ..): the element is evaluated in the generator's own frame -/
/-- the frame's context: made at s, its iterator's objects at fp -/
abbrev gxC (X : Cx) (s : Shared) (H : Hp) (cenv : Env) (A : Around) (fp : List Addr) : Cx := { X with A := A, s_0 := s, H_0 := H, env := cenv, outer := X.stack, stack := cenv :: X.stack, ex := fp, fn := fun _ => false, pn := [], xe := fun _ _ => False }
/-- its env -/
abbrev gxE (X : Cx) (scope : Scope) (C : Addr) (code : Value) : Env := genEnv scope (cloFrom X.env.cells scope.names []) C code builtinsNs X.env
/-- its names: x at slot j, those of the def that it reads, and the iterator's -/
structure GxN (N : List Str) (sc scope : Scope) (x : Str) (j : Nat) : Prop where
  ix : N[j]? = some x
  uniq : ∀ y ∈ scope.names, scope.names.lookup y.1 = some y.2
  free : ∀ y ∈ scope.names, y.2 = .free → sc.names.lookup y.1 = some .cell ∨ sc.names.lookup y.1 = some .free
  own : ∀ y ∈ scope.names, y.2 = .local → y.1 = x ∨ y.1 ∉ N
  nocell : ∀ y ∈ scope.names, y.2 ≠ .cell
def gxnB (N : List Str) (sc scope : Scope) (x : Str) (j : Nat) : Bool := decide (N[j]? = some x) && (scope.names.all fun y => decide (scope.names.lookup y.1 = some y.2)) &&
  (scope.names.all fun y => match y.2 with
    | .free => (match sc.names.lookup y.1 with | some .cell => true | some .free => true | _ => false)
    | .local => decide (y.1 = x) || decide (y.1 ∉ N)
    | .cell => false
    | _ => true)
theorem gxn_by {N : List Str} {sc scope : Scope} {x : Str} {j : Nat} (h : gxnB N sc scope x j = true) : GxN N sc scope x j := by
  unfold gxnB at h
  simp only [Bool.and_eq_true, List.all_eq_true, decide_eq_true_eq] at h
  obtain ⟨⟨h1, h2⟩, h3⟩ := h
  refine ⟨h1, h2, fun y hy e => ?_, fun y hy e => ?_, fun y hy e => ?_⟩
  · have := h3 y hy
    rw [e] at this
    simp only at this
    split at this
    · rename_i z
      exact .inl z
    · rename_i z
      exact .inr z
    · cases this
  · have := h3 y hy
    rw [e] at this
    simp only [Bool.or_eq_true, decide_eq_true_eq] at this
    exact this
  · have := h3 y hy
    rw [e] at this
    cases this
section
variable {X : Cx} {pins : List (Addr × Obj)} {σ : L2.St} {H : Hp} {s : Shared}
theorem gx_start {scope : Scope} {x : Str} {j : Nat} {code : Value} {A : Around} {fp : List Addr} {h' : Heap} {g' : Array GenState} {d' : Drawn} {t' : Nat} {m : Str → Option Value} (I : Inv X pins σ H s) (hfp : ∀ b ∈ fp, FpOk X pins H b ∧ b < s.heap.objs.size) (hk : scope.kind = .function)
    (ok : GxN X.N X.env.scope scope x j) (hN : X.N.Nodup) (hh : A.handled = none) (hfr : A.frames = some (gxE X scope s.heap.objs.size code :: X.stack))
    (keep : ∀ b o, s.heap.get? b = some o → h'.get? b = some o) (ns : h'.Ns s.heap.objs.size m) (hg : AllBare g') :
    Inv (gxC X s H (gxE X scope s.heap.objs.size code) A fp) [] (σ.set j none) H { s with heap := h', gens := g', drawn := d', toks := t' } := by
  have cm : ∀ {y c}, (cloFrom X.env.cells scope.names []).lookup y = some c → X.env.cells.lookup y = some c := fun {y c} e => by
    rcases cloFrom_mem (PySem.mem_of_lookup e) with hm | ⟨h1, rfl⟩
    · cases hm
    · have : ∃ c, X.env.cells.lookup y = some c := by
        rcases ok.free _ h1 rfl with k | k
        · exact I.ok.has _ (.inl k)
        · exact I.ok.has _ (.inr k)
      obtain ⟨c, hc⟩ := this
      rw [hc]
      rfl
  have look : ∀ {y}, scope.names.lookup y = some .free → ∃ c, (cloFrom X.env.cells scope.names []).lookup y = some c ∧ X.env.cells.lookup y = some c := fun {y} hl => by
    have hy : (y, NameKind.free) ∈ scope.names := PySem.mem_of_lookup hl
    obtain ⟨c', e'⟩ := mem_lookup (cloFrom_has (cells := X.env.cells) (acc := []) hy)
    exact ⟨c', e', cm e'⟩
  exact {
    ok := {
      mod := I.ok.mod
      kind := hk
      glob := I.ok.glob
      blt := rfl
      above := Nat.le_refl _
      inj := fun y z c e1 e2 => I.ok.inj y z c (cm e1) (cm e2)
      has := fun y h => by
        rcases h with h | h
        · exact absurd rfl (ok.nocell (y, .cell) (PySem.mem_of_lookup h))
        · obtain ⟨c, h1, _⟩ := look h
          exact ⟨c, h1⟩
      cab := fun _ _ z => nomatch z
      hd := fun _ => hh
      frames := hfr
      stk := .inr ⟨rfl, rfl⟩
      exf := fun b hb => ⟨Nat.ne_of_lt (hfp b hb).2, fun y c e => (hfp b hb).1.2.2.2.2.1 y c (cm e)⟩
      bs := I.bs
      bsz := Nat.le_trans I.ok.bsz I.sz
      noex := fun b o e hb => by
        rcases (hfp b hb).1.2.2.2.1 with z | z
        · exact I.ok.noex b o e z
        · have l := Heap.lt_size e
          exact absurd (Nat.lt_of_lt_of_le l (Nat.le_trans I.ok.bsz z)) (Nat.lt_irrefl _)
      exfs := fun b hb z => by
        rcases List.mem_cons.mp (I.stkSub b z) with e | e
        · exact (hfp b hb).1.2.1 e
        · exact (hfp b hb).1.2.2.1 e
      funs := I.stack
      frf := I.stkFree }
    os := rfl
    bare := hg
    base := Un.kept keep
    loc := by
      refine ⟨m, ns, fun i y v e1 e2 vis => ?_⟩
      have ij : i ≠ j := fun z => by
        rw [z] at e2
        by_cases hl : j < σ.length
        · rw [List.getElem?_set_self hl] at e2
          cases e2
        · rw [List.getElem?_eq_none (by simpa using hl)] at e2
          cases e2
      rw [List.getElem?_set_ne (Ne.symm ij)] at e2
      have yN : y ∈ X.N := List.mem_of_getElem? e1
      have yx : y ≠ x := fun z => ij (nodup_ix hN e1 (by rw [z]; exact ok.ix))
      rcases vis with vi | vi | vi
      · rcases ok.own (y, .local) (PySem.mem_of_lookup vi) rfl with z | z
        · exact absurd z yx
        · exact absurd yN z
      · exact absurd rfl (ok.nocell (y, .cell) (PySem.mem_of_lookup vi))
      · obtain ⟨m0, ns0, lk⟩ := I.loc
        have vX : Vis X.env.scope y := by
          rcases ok.free (y, .free) (PySem.mem_of_lookup vi) rfl with k | k
          · exact .inr (.inl k)
          · exact .inr (.inr k)
        obtain ⟨u, ru, lu⟩ := lk i y v e1 e2 vX
        obtain ⟨c, c1, c2⟩ := look vi
        refine ⟨u, ru, .inr ⟨.inr vi, c, c1, ?_⟩⟩
        rcases lu with ⟨kl, _⟩ | ⟨_, c', e', ic⟩
        · have kf : X.env.kindOf y = some .cell ∨ X.env.kindOf y = some .free := by
            rcases ok.free (y, .free) (PySem.mem_of_lookup vi) rfl with k | k
            · exact .inl k
            · exact .inr k
          rcases kf with k | k
          · rw [k] at kl
            cases kl
          · rw [k] at kl
            cases kl
        · rw [c2] at e'
          cases e'
          obtain ⟨o, ho, hd⟩ := ic
          exact ⟨o, keep _ _ ho, hd⟩
    cell := fun y c e => by
      obtain ⟨v, o, ho, hd⟩ := I.cell y c (cm e)
      exact ⟨v, o, keep _ _ ho, hd⟩
    free := I.hok.fresh (Nat.le_refl _)
    freeC := fun y c e => I.freeC y c (cm e)
    pin := fun p hp => nomatch hp
    hok := I.hok.kept keep
    len := by
      rw [List.length_set]
      exact I.len }
theorem inv_gens {g' : Array GenState} (I : Inv X pins σ H s) (hg : AllBare g') : Inv X pins σ H { s with gens := g' } := ⟨I.ok, I.os, hg, I.base, I.loc, I.cell, I.free, I.freeC, I.pin, I.hok, I.len⟩
theorem allBare_set {s : Shared} {g : Nat} {gs : GenState} (h : AllBare s.gens) (b : gs.bare = true) : AllBare (s.setGen g gs).gens := by
  intro y hy
  obtain ⟨i, hi, rfl⟩ := Array.mem_iff_getElem.mp hy
  have e : (s.setGen g gs).gens = s.gens.setIfInBounds g gs := rfl
  have hi' : i < s.gens.size := by rw [GenW.setGen_size] at hi; exact hi
  by_cases z : g = i
  · subst z
    have : (s.setGen g gs).gens[g] = gs := by simp [Shared.setGen]
    rw [this]
    exact b
  · have : (s.setGen g gs).gens[i] = s.gens[i] := by
      show (s.gens.setIfInBounds g gs)[i]'hi = s.gens[i]
      exact Array.getElem_setIfInBounds_ne hi' z
    rw [this]
    exact h _ (Array.getElem_mem hi')
end
/-- between two turns -/
def GxSt (Y : Cx) (σ : L2.St) (j : Nat) (a : Addr) (og : Obj) (fp : List Addr) (tn : Nat → Heap → Prop) (Wv : Nat → Hp → Prop) (i : Nat) (s : Shared) : Prop :=
  ∃ y H, Inv Y [(a, og)] (σ.set j y) H s ∧ tn i s.heap ∧ (∀ b ∈ fp, H b = none) ∧ Wv i H
def GxFi (Y : Cx) (a : Addr) (og : Obj) (Wv : Nat → Hp → Prop) (s : Shared) : Prop := ∃ σ H i, Inv Y [(a, og)] σ H s ∧ Wv i H
/-- what all(elt for x in ..) asks -/
def tAllC (P : Addr) (j : Nat) (wi : TI) (te : TE) : TE := fun σ H Q => wi σ H fun J H1 => GxR.TabG H1 P ∧ ∃ (n : Nat) (tr : Nat → Bool) (Wv : Nat → Hp → Prop), (∀ H2, GxR.Tabbed P H1 H2 → Wv 0 H2) ∧
  (∀ i H2, i < n → Wv i H2 → J.go i H2 ∧ ∀ v H3, J.yld i H2 v H3 → te (σ.set j (some v)) H3 fun y H4 => y = .bl (tr i) ∧ Wv (i + 1) H4) ∧ (∀ H2, Wv n H2 → J.stop n H2) ∧ ∀ i H2, Wv i H2 → Q (.bl ((List.range n).all tr)) H2
section
variable {X : Cx}
theorem turns_of {Y : Cx} {elt : Expr} {x : Str} {px : Pos} {J : It} {fp : List Addr} {it a : Addr} {og : Obj} {tn : Nat → Heap → Prop} {n : Nat} {tr : Nat → Bool} {Wv : Nat → Hp → Prop} {te : TE} {σ : L2.St} {j : Nat} (hc : Y.calm = true) (hex : Y.ex = fp) (hpn : Y.pn = []) (hxe : Y.xe = fun _ _ => False)
    (T : Turn Y.prog Y.w Y.K (.Name x px) J fp it tn) (pg : PG Y (.Name x px) (gName j)) (pe : PE Y elt te) (haf : a ∉ fp)
    (step : ∀ i H2, i < n → Wv i H2 → J.go i H2 ∧ ∀ v H3, J.yld i H2 v H3 → te (σ.set j (some v)) H3 fun y H4 => y = .bl (tr i) ∧ Wv (i + 1) H4) (stop : ∀ H2, Wv n H2 → J.stop n H2) :
    Turns Y.prog Y.w Y.A elt x px it Y.env n tr (GxSt Y σ j a og fp tn Wv) (GxFi Y a og Wv) := by
  have fpk : ∀ {σ : L2.St} {H : Hp} {s : Shared} {ps : List (Addr × Obj)}, Inv Y ps σ H s → (∀ b ∈ fp, H b = none) → (∀ p ∈ ps, p.1 ∉ fp) → ∀ b ∈ fp, FpOk Y ps H b := fun {σ H s ps} I' hn hp b hb =>
    ⟨hn b hb, (I'.ok.exf b (by rw [hex]; exact hb)).1, I'.ok.exfs b (by rw [hex]; exact hb), .inl (by rw [hex]; exact hb), fun x c e => (I'.ok.exf b (by rw [hex]; exact hb)).2 x c e, fun p m => by
      rw [hpn] at m
      intro z
      exact hp p m (z ▸ hb)⟩
  have pa : ∀ p ∈ [(a, og)], p.1 ∉ fp := fun p m => by
    rw [List.mem_singleton.mp m]
    exact haf
  refine ⟨fun i s E hi st => ?_, fun s E st => ?_, fun s E st => ?_⟩
  · obtain ⟨y0, H, I, tt, nf, wv⟩ := st
    obtain ⟨go, yl⟩ := step i H hi wv
    refine wpAny_mono (T.item Y rfl rfl rfl hc i _ s _ H E I (fpk I nf pa) tt go) ?_ fun _ _ e => e
    rintro r s1 ⟨u, rfl, h1⟩
    refine ⟨u, rfl, ?_⟩
    refine wpAny_mono h1 ?_ fun _ _ e => e
    rintro _ s1 ⟨v, H1, I1, rv, y1, t1, n1⟩
    have te1 := yl v H1 y1
    -- the iterator's objects are pinned
    have ob := T.obj _ _ t1
    obtain ⟨of, hof⟩ := Classical.axiomOfChoice (r := fun (b : Addr) (o : Obj) => b ∈ fp → s1.heap.get? b = some o ∧ ∀ v, o.data ≠ .cell v) fun b => by
      by_cases hb : b ∈ fp
      · obtain ⟨o, h⟩ := ob b hb
        exact ⟨o, fun _ => h⟩
      · exact ⟨og, fun z => absurd z hb⟩
    have I2 : Inv Y ((a, og) :: fp.map fun b => (b, of b)) (σ.set j y0) H1 s1 := I1.pins_of fun p hp => by
      rcases List.mem_cons.mp hp with rfl | hp
      · exact I1.pin (a, og) (List.mem_append_right _ List.mem_cons_self)
      · obtain ⟨b, hb, rfl⟩ := List.mem_map.mp hp
        obtain ⟨q1, q2⟩ := hof b hb
        obtain ⟨f1, f2, f3, _⟩ := fpk I1 n1 pa b hb
        exact ⟨q1, f1, f2, f3, q2⟩
    have eσ : (σ.set j y0).set j (some v) = σ.set j (some v) := List.set_set ..
    have as := pg.run _ s1 _ H1 v u (fun σ' H' => σ' = σ.set j (some v) ∧ H' = H1) I2 rv ⟨eσ, rfl⟩
    rw [hxe] at as
    refine wpAny_mono as ?_ fun _ _ e => e.elim
    rintro _ s2 ⟨σ2, H2, I3, rfl, rfl⟩
    have ev := pe.run _ s2 _ _ _ I3 te1
    rw [hxe] at ev
    refine wpAny_mono ev ?_ fun _ _ e => e.elim
    rintro y s3 ⟨yv, H4, I4, ry, rfl, w4⟩
    refine ⟨ry, _, H4, I4.pins_of fun p hp => ?_, ?_, ?_, w4⟩
    · rw [List.mem_singleton.mp hp]
      exact I4.pin (a, og) (List.mem_append_right _ List.mem_cons_self)
    · refine T.keep _ _ _ t1 fun b hb o e => ?_
      have := (I4.pin (b, of b) (List.mem_append_right _ (List.mem_cons_of_mem _ (List.mem_map_of_mem hb)))).1
      rw [(hof b hb).1] at e
      cases e
      exact this
    · intro b hb
      exact (I4.pin (b, of b) (List.mem_append_right _ (List.mem_cons_of_mem _ (List.mem_map_of_mem hb)))).2.1
  · obtain ⟨y0, H, I, tt, nf, wv⟩ := st
    refine wpAny_mono (T.done Y rfl rfl rfl hc n _ s _ H E I (fpk I nf pa) tt (stop H wv)) ?_ fun _ _ e => e
    rintro r s1 ⟨rfl, I1⟩
    exact ⟨rfl, _, H, n, I1, wv⟩
  · obtain ⟨y0, H, I, tt, nf, wv⟩ := st
    exact T.self _ 0 s _ _ tt ⟨rfl, y0, H, I, tt, nf, wv⟩
end
end Cu

namespace Cu
open PySem PySem.Spec PyProof.Rows L2
section
variable {X : Cx}
theorem pe_allC {c P : Addr} {elt iter : Expr} {x : Str} {px p pos gpos : Pos} {scope : Scope} {wi : TI} {te : TE} {k j : Nat}
    (hc : X.calm = true) (hr : Room (k + 1) X.A) (hg : Gl X "all") (hm : X.mg "all" = none) (TB : GxR.TabB X.base X.mg c P) (hcode : X.env.code = .ref c) (hN : X.N.Nodup) (ok : GxN X.N X.env.scope scope x j) (hk : scope.kind = .function) (hco : scope.isCoroutine = false) (hdot : scope.names.lookup (".0" : Str) = some NameKind.local) (hloc : scope.names.lookup x = some .local)
    (hi : PI X (.Name x px) iter wi)
    (pe : ∀ (s : Shared) (H : Hp) (C : Addr) (code : Value) (A : Around) (fp : List Addr), Room k A → PE (gxC X s H (gxE X scope C code) A fp) elt te)
    (hs : ∀ v, genFold iter X.env v = pure v := by intro _; rfl)
    (he : starEach [.GeneratorExp elt [⟨.Name x px, iter, [], 0⟩] scope gpos] X.env = (false, eval (.GeneratorExp elt [⟨.Name x px, iter, [], 0⟩] scope gpos) X.env) :: starEach [] X.env := by rfl) :
    PE X (.Call (.Name "all" p) [.GeneratorExp elt [⟨.Name x px, iter, [], 0⟩] scope gpos] [] pos) (tAllC P j wi te) := by
  constructor
  intro pins s σ H Q I h
  have S : GxR.GenS X.env scope x := ⟨hk, hco, ok.nocell, hdot, hloc, fun y hy e => by
    rcases ok.free y hy e with k | k
    · exact I.ok.has _ (.inl k)
    · exact I.ok.has _ (.inr k)⟩
  apply wpAny_Call_Name_kw
  apply ld_blt I hg hm (show bootBuiltins "all" = some (.builtin "all") by decide +kernel)
  apply PyProof.Rows.callWith_builtin1 _ he (by rfl)
  rw [he]
  show wpAny _ _ (spliced ((false, eval (.GeneratorExp elt [⟨.Name x px, iter, [], 0⟩] scope gpos) X.env) :: backTo pos (starEach [] X.env))) _ _ s
  apply Calls.spliced_cons
  have dp : X.A.depth < recursionLimit := by
    have := hr.dp
    omega
  apply wpAny_GeneratorExp_make S.co (closure_ok S.free) S.cell S.dot S.kind dp _ hs
  refine thn (hi.run pins s σ H _ I h) fun xv s1 h1 => thn h1 ?_
  rintro itv s2 ⟨it, fp, tn, J, H1, rfl, I1, T, st1, f1, tab, n, tr, Wv, w0, step, stop, q⟩
  refine ⟨I1.nolimit, ?_⟩
  obtain ⟨ps, hP, tri⟩ := id tab
  have isP : s2.heap.get? P = some { cls := .none, data := .fields ps } := I1.hok P _ hP
  have cd : PySem.W.CodeHd s2.heap c P := TB.code.keeps I1.bk
  have rest : ∀ (code : Value) (h3 : Heap) (tk : Nat) (qs : Array Value), Heap.ExtBut P s2.heap h3 → s2.heap.objs.size ≤ h3.objs.size → h3.get? P = some { cls := .none, data := .fields qs } → (∃ more, qs = ps ++ more) → TriplesOk qs.toList →
      wpAny (model X.prog X.w) X.A (builtinsFor X.env.globals X.env.builtins) (fun bi s4 => ∀ h', h'.Ns s4.heap.objs.size (fun y => if y = ".0" then some (.ref it) else none) → Heap.SameBut s4.heap.objs.size (s4.heap.push { cls := .type "frame", data := .dict #[] }) h' →
        wpAny (model X.prog X.w) X.A (spliced (backTo pos (starEach [] X.env))) (fun vs s' => wpAny (model X.prog X.w) X.A (call (.builtin "all") (.ref h'.objs.size :: vs)) (EP X pins σ Q) X.xe s') X.xe { s4 with
            gens := s4.gens.push (.fresh (gStart elt iter x px scope gpos it (genEnv scope (cloFrom X.env.cells scope.names []) s4.heap.objs.size code bi X.env))),
            toks := s4.toks + 1 + 1 + 1,
            heap := h'.push { cls := .type "generator", data := .fields #[.int s4.gens.size 0, .str "<genexpr>" (s4.toks + 1), .str (X.env.qual ++ "<genexpr>") (s4.toks + 1 + 1)] } }) X.xe { s2 with heap := h3, toks := tk } := by
    intro code h3 tk qs ex size isP3 grown tr3
    obtain ⟨bm, ob, b1, b2, b3, b4, b5, b6, b7, b8⟩ := TB.bm
    have gl : h3.Ns X.env.globals X.mg := by
      rw [I1.ok.glob]
      exact (I1.mod.glob.keeps I1.bk).extBut ex TB.gP
    apply wpAny_builtinsFor gl b1 b2 (ex _ _ b4 (I1.bk _ _ b5)) b6 b7 b8
    intro h' ns' same'
    apply Calls.spliced_nil
    obtain ⟨more, em⟩ := grown
    rw [em] at isP3 tr3
    have I4 : Inv X pins σ (upd H1 P (.tbl (ps ++ more))) { s2 with heap := h3, toks := tk } := GxR.inv_tab (g' := s2.gens) (d' := s2.drawn) (t' := tk) I1 hP (fun b o nb e => ex b o nb e) isP3 I1.bare
    have tb4 : GxR.Tabbed P H1 (upd H1 P (.tbl (ps ++ more))) := ⟨⟨ps ++ more, upd_same, tr3⟩, fun b nb => upd_ne nb⟩
    have wv0 := w0 _ tb4
    have nfP : ∀ b ∈ fp, b ≠ P := fun b hb z => by
      have := (f1 b hb).1
      rw [z, hP] at this
      cases this
    have f4 : ∀ b ∈ fp, FpOk X pins (upd H1 P (.tbl (ps ++ more))) b ∧ b < h3.objs.size := fun b hb => by
      obtain ⟨o, e, _⟩ := T.obj _ _ st1 b hb
      refine ⟨⟨?_, (f1 b hb).2⟩, Nat.lt_of_lt_of_le (Heap.lt_size e) size⟩
      rw [upd_ne (nfP b hb)]
      exact (f1 b hb).1
    have t4 : tn 0 h3 := T.keep _ _ _ st1 fun b hb o e => ex b o (nfP b hb) e
    generalize upd H1 P (.tbl (ps ++ more)) = H4 at I4 wv0 f4
    have keep : ∀ b o, h3.get? b = some o → h'.get? b = some o := fun b o e => same'.extBut b o (Nat.ne_of_lt (Heap.lt_size e)) (Heap.get?_push_of_some _ e)
    have hsz : h'.objs.size = h3.objs.size + 1 := by
      rw [same'.1, Heap.size_push]
    have fresh : GenState.bare (.fresh (gStart elt iter x px scope gpos it (gxE X scope h3.objs.size code))) = true := rfl
    generalize hog : ({ cls := .type "generator", data := .fields #[.int s2.gens.size 0, .str "<genexpr>" (tk + 1), .str (X.env.qual ++ "<genexpr>") (tk + 1 + 1)] } : Obj) = og
    have keep5 : ∀ b o, h3.get? b = some o → (h'.push og).get? b = some o := fun b o e => Heap.get?_push_of_some _ (keep b o e)
    have room : Room k (X.A.in1.in1.over (gLoop elt iter x px scope gpos it (gxE X scope h3.objs.size code)) []) := by
      refine ⟨hr.hd, ?_, ?_⟩
      · have := hr.dp
        show X.A.depth + 0 + 1 + 3 * k + 5 < _
        omega
      · have := hr.un
        show X.A.units + 1 + 1 + 0 + 3 + 16 * k + 200 < _
        omega
    have fr5 : (X.A.in1.in1.over (gLoop elt iter x px scope gpos it (gxE X scope h3.objs.size code)) []).frames = some (gxE X scope h3.objs.size code :: X.stack) := by
      show pushEnvs [_] (pushEnvs [] X.A.frames) = _
      rw [I1.ok.frames]
      rfl
    have J0 := gx_start (x := x) (j := j) (scope := scope) (code := code) (fp := fp) (g' := s2.gens.push (.fresh (gStart elt iter x px scope gpos it (gxE X scope h3.objs.size code)))) (d' := s2.drawn) (t' := tk + 1 + 1 + 1) (h' := h'.push og) I4 f4 S.kind ok hN room.hd fr5 keep5 (ns'.push og) (I1.bare.push fresh)
    have big : h3.objs.size ≤ h'.objs.size := by omega
    have na : H4 h'.objs.size = none := I4.hok.fresh big
    have nfa : h'.objs.size ∉ frs X.stack := fun z => by
      rcases List.mem_cons.mp (I4.stkSub _ z) with e | e
      · have l := I4.lt
        rw [← e] at l
        exact absurd (Nat.lt_of_lt_of_le l big) (Nat.lt_irrefl _)
      · exact I4.nofs big e
    have ga : (h'.push og).get? h'.objs.size = some og := Heap.get?_push_size _ (by rw [← hog]; rfl)
    have J1 := J0.pins_of (pins' := [(h'.objs.size, og)]) fun q hq => by
      rw [List.mem_singleton.mp hq]
      refine ⟨ga, na, ?_, nfa, fun v z => ?_⟩
      · show h'.objs.size ≠ h3.objs.size
        omega
      · rw [← hog] at z
        cases z
    have haf : h'.objs.size ∉ fp := fun z => by
      have := (f4 _ z).2
      exact absurd (Nat.lt_of_lt_of_le this big) (Nat.lt_irrefl _)
    have Tn := turns_of (Y := gxC X { s2 with heap := h3, toks := tk } H4 (gxE X scope h3.objs.size code) (X.A.in1.in1.over (gLoop elt iter x px scope gpos it (gxE X scope h3.objs.size code)) []) fp) (og := og) (tr := tr) (Wv := Wv) (σ := σ) (j := j) hc rfl rfl rfl T
      (pg_name (i := j) hN ok.ix (.inl S.loc) (.inr S.loc)) (pe _ _ _ _ _ _ room) haf step stop
    have st0 : GxSt (gxC X { s2 with heap := h3, toks := tk } H4 (gxE X scope h3.objs.size code) (X.A.in1.in1.over (gLoop elt iter x px scope gpos it (gxE X scope h3.objs.size code)) []) fp) σ j h'.objs.size og fp tn Wv 0 _ :=
      ⟨_, H4, J1, T.keep _ _ _ t4 fun b _ o e => keep5 b o e, fun b hb => (f4 b hb).1.1, wv0⟩
    have B : Bears h'.objs.size s2.gens.size (GxSt (gxC X { s2 with heap := h3, toks := tk } H4 (gxE X scope h3.objs.size code) (X.A.in1.in1.over (gLoop elt iter x px scope gpos it (gxE X scope h3.objs.size code)) []) fp) σ j h'.objs.size og fp tn Wv)
        (GxFi (gxC X { s2 with heap := h3, toks := tk } H4 (gxE X scope h3.objs.size code) (X.A.in1.in1.over (gLoop elt iter x px scope gpos it (gxE X scope h3.objs.size code)) []) fp) h'.objs.size og Wv) := by
      refine ⟨?_, ?_, ?_, ?_, ?_⟩
      · rintro i s' ⟨σ', H', J', _⟩
        have e := (J'.pin (h'.objs.size, og) List.mem_cons_self).1
        rw [← hog] at e
        exact ⟨⟨_, _, _, e, rfl, rfl, rfl⟩, J'.nolimit⟩
      · rintro i s' gs b ⟨σ', H', J', r⟩
        exact ⟨σ', H', inv_gens J' (allBare_set J'.bare b), r⟩
      · rintro i s' ⟨σ', H', J', _, _, wv⟩
        exact ⟨_, H', i, J', wv⟩
      · rintro s' gs b ⟨σ', H', i, J', wv⟩
        exact ⟨σ', H', i, inv_gens J' (allBare_set J'.bare b), wv⟩
      · rintro s' hh kk ⟨σ', H', i, J', wv⟩
        exact ⟨σ', H', i, J'.kept (t' := s'.toks) kk, wv⟩
    refine call_allT (n := n) (tr := tr) hr.hd dp B ⟨st0, _, Array.getElem?_push_size .., fun s'' h'' => ⟨rfl, ?_⟩⟩ ?_
    · rw [Nat.sub_zero]
      exact seg_start S.co Tn s'' s'' h''
    · rintro s' ⟨σ', H', i, J', wv⟩
      exact ⟨.bl _, H', I4.call' (ch := fp) J'.os J'.base J'.hok J'.bare (fun b hb => ⟨(f4 b hb).1.2.2.2.1, (f4 b hb).1.2.1, (f4 b hb).1.2.2.2.2.1, (f4 b hb).1.2.2.2.2.2⟩), rfl, q i H' wv⟩
  cases hit : codeAmong gpos ps.toList with
  | none =>
    apply wpAny_genexprCodeX hcode (cd.code isP tri) (cd.tab isP) hit
    intro c' h' tk ex ge lt co' _ tab' _
    obtain ⟨o1, vs, f1, tf, fl, tg, inF, tx, tt, op, _, _, _, _, _, _, _, _, _, tr', _⟩ := co'
    exact rest _ h' tk _ ex (Nat.le_trans ge (Nat.le_of_lt lt)) tab'.2 ⟨_, rfl⟩ tr'
  | some cv =>
    apply wpAny_genexprCode_hit hcode (cd.code isP tri) hit
    exact rest cv s2.heap s2.toks ps (Heap.ExtBut.refl _ _) (Nat.le_refl _) isP ⟨#[], by simp⟩ tri
end
end Cu

namespace Cu
open PySem PySem.Spec PyProof.Rows L2
/-! ### sets of texts -/
def txt (e : Int × Value) : Str := match e.2 with | .str k _ => k | _ => ""
def Tx (w : World) (e : Int × Value) : Prop := ∃ k tk, e.2 = Value.str k tk ∧ e.1 = hashStr w k
/-- entries and table of a set of texts: S says which, n how many -/
structure TT (w : World) (es : Array (Int × Value)) (t : SetTable) (S : Str → Bool) (n : Nat) : Prop where
  tx : ∀ e ∈ es.toList, Tx w e
  nd : (es.toList.map txt).Nodup
  mem : ∀ k, S k = true ↔ k ∈ es.toList.map txt
  few : es.size < scanBound
  fit : t.fits es.size = true
  num : es.size = n
  ris : Ris t.place.toList
  led : w.params.followText "set-order" = true ∨ t.led = true
def SetX (w : World) (h : Heap) (a : Addr) (S : Str → Bool) (n : Nat) : Prop := ∃ o es ep t, h.get? a = some o ∧ o.ExactSet ∧ o.data = .set es ep t ∧ TT w es t S n
section
variable {P : Program} {w : World} {h h' : Heap} {a : Addr} {S : Str → Bool} {n : Nat}
theorem SetX.at (x : SetX w h a S n) (k : ∀ o, h.get? a = some o → h'.get? a = some o) : SetX w h' a S n := by
  obtain ⟨o, es, ep, t, e, z⟩ := x
  exact ⟨o, es, ep, t, k o e, z⟩
theorem SetX.lt (x : SetX w h a S n) : a < h.objs.size := by
  obtain ⟨o, es, ep, t, e, z⟩ := x
  exact Heap.lt_size e
theorem SetX.is {S' : Str → Bool} (x : SetX w h a S n) (e : ∀ k, S' k = S k) : SetX w h a S' n := by
  rw [show S' = S from funext e]
  exact x
theorem tx_key {e : Int × Value} (x : Tx w e) (k : Str) : (PySem.strKind P w).is k e.2 = true ↔ txt e = k := by
  obtain ⟨k0, tk, e1, _⟩ := x
  unfold txt
  rw [e1]
  constructor
  · intro z
    exact (PySem.strKind P w).inj _ _ _ (PySem.strKind_is P w k0 tk) z
  · rintro rfl
    exact PySem.strKind_is P w k0 tk
theorem tx_elems {l : List (Int × Value)} (x : ∀ e ∈ l, Tx w e) : ElemsOf (PySem.strKind P w) l := fun e m => by
  obtain ⟨k, tk, e1, e2⟩ := x e m
  exact ⟨⟨k, (tx_key (x e m) k).mpr (by unfold txt; rw [e1]), e2⟩, by rw [e1]; rfl⟩
theorem tx_mem {l : List (Int × Value)} (x : ∀ e ∈ l, Tx w e) (k : Str) : k ∈ l.map txt ↔ ∃ e ∈ l, (PySem.strKind P w).is k e.2 = true := by
  rw [List.mem_map]
  exact ⟨fun ⟨e, m, q⟩ => ⟨e, m, (tx_key (x e m) k).mpr q⟩, fun ⟨e, m, q⟩ => ⟨e, m, (tx_key (x e m) k).mp q⟩⟩
theorem SetX.of (x : SetX w h a S n) : h.SetOf (PySem.strKind P w) a S n := by
  obtain ⟨o, es, ep, t, e, ex, ed, T⟩ := x
  exact ⟨o, es, ep, t, e, ex, ed, tx_elems T.tx, fun k => (T.mem k).trans (tx_mem T.tx k), T.few, T.fit, T.num⟩
/-- after relaying: the same texts -/
theorem TT.perm {es es' : Array (Int × Value)} {t t' : SetTable} (T : TT w es t S n) (p : es'.toList.Perm es.toList) (f : t'.fits es'.size = true) (r : Ris t'.place.toList) (l : w.params.followText "set-order" = true ∨ t'.led = true) : TT w es' t' S n := by
  have z : es'.size = es.size := by rw [← Array.length_toList, p.length_eq, Array.length_toList]
  exact ⟨fun e m => T.tx e (p.mem_iff.mp m), (p.map txt).nodup_iff.mpr T.nd, fun k => (T.mem k).trans (p.map txt).mem_iff.symm, z ▸ T.few, f, z.trans T.num, r, l⟩
end
section
variable {P : Program} {w : World} {A : Around} {E : Value → Shared → Prop} {s : Shared} {a : Addr} {S : Str → Bool} {n : Nat}
theorem addT_end {g : Bool → Sem Unit} (hg : ∀ (b : Bool) (s1 : Shared) (Z : Unit → Shared → Prop), Z () s1 → wpAny (model P w) A (g b) Z E s1)
    {o : Obj} {es : Array (Int × Value)} {ep : Nat} {t : SetTable} (e : s.heap.get? a = some o) (ex : o.ExactSet) (ed : o.data = .set es ep t)
    {fs : Array (Int × Value)} {u : SetTable} (T : TT w fs u S n) {dum : Bool} {R : Option Bool → Shared → Prop}
    (hR : ∀ h', Heap.SameBut a s.heap h' → SetX w h' a S n → R (some true) { s with heap := h' }) :
    wpAny (model P w) A (do
        storeSet a fs u
        if (!dum && u.tooFull) = true then do
            g (relayAll u fs (SetTable.grown fs.size)).2.2
            storeSet a (relayAll u fs (SetTable.grown fs.size)).1 (relayAll u fs (SetTable.grown fs.size)).2.1
            pure (some true)
          else pure (some true)) R E s := by
  refine wpAny_bind (wpAny_storeSet_of e ed ?_ (fits_of_scanBound T.few))
  have e1 := store_at (es' := fs) (t' := u) e ed
  have b1 := Heap.SameBut.update s.heap a (Obj.putSet fs u)
  split
  · have p := relayAll_perm u fs (SetTable.grown fs.size)
    have f := relayAll_fits u fs (SetTable.grown fs.size)
    have r := relayAll_ris u fs (SetTable.grown fs.size)
    have l := relayAll_led u fs (SetTable.grown fs.size)
    generalize relayAll u fs (SetTable.grown fs.size) = Z at p f r l ⊢
    obtain ⟨gs, v, gave⟩ := Z
    dsimp only at p f r l ⊢
    have T2 := T.perm p f r (T.led.imp id fun z => by rw [l]; exact z)
    refine wpAny_bind (hg _ _ _ ?_)
    refine wpAny_bind (wpAny_storeSet_of e1 rfl ?_ (fits_of_scanBound T2.few))
    have e2 := store_at (es' := gs) (t' := v) e1 rfl
    exact wpAny_pure (hR _ (b1.trans (Heap.SameBut.update _ a _)) ⟨_, gs, _, v, e2, ex, rfl, T2⟩)
  · exact wpAny_pure (hR _ b1 ⟨_, fs, _, u, e1, ex, rfl, T⟩)
theorem addT {k : Str} {tk : Tok} {Q : Bool → Shared → Prop} (x : SetX w s.heap a S n) (room : n + 1 < scanBound)
    (q : ∀ h', Heap.SameBut a s.heap h' → SetX w h' a (fun j => S j || decide (j = k)) (if S k = true then n else n + 1) → Q (!S k) { s with heap := h' }) :
    wpAny (model P w) A (setAddHashed a (.str k tk) (hashStr w k)) Q E s := by
  obtain ⟨o, es, ep, t, e, ex, ed, T⟩ := x
  have key : (PySem.strKind P w).is k (.str k tk) = true := PySem.strKind_is P w k tk
  have el : ElemsOf (PySem.strKind P w) es.toList := tx_elems T.tx
  unfold setAddHashed setAddHashedIn
  refine wpAny_holding (wpAny_bind (wpAny_setState_of e ed T.fit ?_))
  dsimp only
  rw [byScan_of rfl T.few el]
  simp only [↓reduceIte]
  unfold setAddByScan
  refine wpAny_bind ?_
  refine wpAny_bind (wpAny_rule ?_)
  refine wpAny_bind (wpAny_setScan_of (knd := PySem.strKind P w) (k := k) key e ed T.fit el ?_)
  cases fi : List.findIdx? (fun e => (PySem.strKind P w).is k e.2) es.toList with
  | some j =>
    dsimp only
    obtain ⟨hj, pj, _⟩ := List.findIdx?_eq_some_iff_getElem.mp fi
    have sk : S k = true := (T.mem k).mpr ((tx_mem (P := P) T.tx k).mpr ⟨es.toList[j], List.getElem_mem hj, pj⟩)
    refine wpAny_pure (wpAny_pure ?_)
    have z := q s.heap (Heap.SameBut.refl a s.heap) ⟨o, es, ep, t, e, ex, ed, T.tx, T.nd, fun i => by
      rw [Bool.or_eq_true, decide_eq_true_eq, ← T.mem i]
      exact ⟨fun y => y.elim id (fun ei => ei ▸ sk), .inl⟩, T.few, T.fit, by rw [if_pos sk]; exact T.num, T.ris, T.led⟩
    rw [sk] at z
    exact z
  | none =>
    dsimp only
    have out : k ∉ es.toList.map txt := fun z => by
      obtain ⟨y, m, qy⟩ := (tx_mem (P := P) T.tx k).mp z
      have c := List.findIdx?_eq_none_iff.mp fi y m
      rw [qy] at c
      cases c
    have sk : S k = false := by
      cases z : S k with
      | false => rfl
      | true => exact absurd ((T.mem k).mp z) out
    have way : ∀ (b : Bool) {s1 : Shared} {Z : Unit → Shared → Prop}, Z () s1 → wpAny (model P w) A (match b with | true => rule "set.scan.the-table-gave-way" | false => pure ()) Z E s1 :=
      fun b s1 Z y => by cases b <;> first | exact wpAny_pure y | exact wpAny_rule y
    have p := layNew_perm t es (hashStr w k) (.str k tk)
    have f := layNew_fits t es (hashStr w k) (.str k tk)
    have r := layNew_ris t es (hashStr w k) (.str k tk) T.ris
    have l := layNew_led t es (hashStr w k) (.str k tk)
    show wpAny _ _ (match (layNew t es (hashStr w k) (.str k tk)) with | _ => _) _ _ _
    generalize layNew t es (hashStr w k) (.str k tk) = Z at p f r l ⊢
    obtain ⟨fs, u, dum, gave⟩ := Z
    dsimp only at p f r l ⊢
    rw [Array.toList_push] at p
    have pc : fs.toList.Perm ((hashStr w k, Value.str k tk) :: es.toList) := p.trans (List.perm_append_singleton _ _)
    have pk : (fs.toList.map txt).Perm (k :: es.toList.map txt) := pc.map txt
    have sz : fs.size = n + 1 := by rw [← Array.length_toList, pc.length_eq, List.length_cons, Array.length_toList, T.num]
    have T1 : ∀ v : SetTable, v.fits fs.size = true → Ris v.place.toList → (w.params.followText "set-order" = true ∨ v.led = true) → TT w fs v (fun j => S j || decide (j = k)) (n + 1) := fun v a1 a2 a3 =>
      ⟨fun y m => by
        rcases List.mem_cons.mp (pc.mem_iff.mp m) with z | z
        · rw [z]
          exact ⟨k, tk, rfl, rfl⟩
        · exact T.tx y z, pk.nodup_iff.mpr (List.nodup_cons.mpr ⟨out, T.nd⟩), fun i => by
        rw [Bool.or_eq_true, decide_eq_true_eq, T.mem i, pk.mem_iff, List.mem_cons]
        exact Or.comm, by rw [sz]; exact room, a1, sz, a2, a3⟩
    have ld : w.params.followText "set-order" = true ∨ u.led = true := T.led.imp id fun z => by rw [l]; exact z
    have fin : ∀ h', Heap.SameBut a s.heap h' → SetX w h' a (fun j => S j || decide (j = k)) (n + 1) → Q true { s with heap := h' } := fun h' b y => by
      have z := q h' b
      rw [sk] at z
      exact z y
    refine wpAny_bind (way _ ?_)
    split
    · refine wpAny_bind ?_
      rw [hashByValue_scannable 8 (x := Value.str k tk) rfl]
      refine wpAny_pure ?_
      refine addT_end (n := n + 1) ?_ e ex ed (T1 _ (SetTable.fits_plain_off f) r ld) ?_
      · intro b s1 Z y
        cases b <;> first | exact wpAny_pure y | exact wpAny_rule y
      · intro h' b y
        dsimp only
        exact wpAny_pure (fin h' b y)
    · refine wpAny_bind (wpAny_pure ?_)
      simp only [↓reduceIte]
      refine addT_end (n := n + 1) ?_ e ex ed (T1 _ f r ld) ?_
      · intro b s1 Z y
        cases b <;> first | exact wpAny_pure y | exact wpAny_rule y
      · intro h' b y
        dsimp only
        exact wpAny_pure (fin h' b y)
end
/-! ### filling -/
/-- the set at S holds the first i of xs -/
def HoldX (w : World) (h : Heap) (S : Addr) (xs : List Str) (i : Nat) : Prop := ∃ c, SetX w h S (fun k => decide (k ∈ xs.take i)) c ∧ c ≤ i ∧ ((xs.take i).Nodup → c = i)
theorem HoldX.at {w : World} {h h' : Heap} {S : Addr} {xs : List Str} {i : Nat} (x : HoldX w h S xs i) (k : ∀ o, h.get? S = some o → h'.get? S = some o) : HoldX w h' S xs i := by
  obtain ⟨c, y, l⟩ := x
  exact ⟨c, y.at k, l⟩
section
variable {prog : Program} {w : World} {A : Around} {R : Result → Shared → Prop} {I : Addr} {fp wr : List Addr} {G : Array GenState → Array GenState → Prop} {n : Nat} {P : Nat → Value → Prop} {St : Nat → Shared → Prop}
theorem fillX (W : WalksS prog w A.in1 I fp wr G n P St) (S : Addr) (out : S ∉ fp) (xs : List Str) (sz : xs.length = n) (few : n + 1 < scanBound) (val : ∀ i v, P i v → ∃ x t, xs[i]? = some x ∧ v = .str x t) :
    ∀ (k i : Nat) (s : Shared), n - i = k → i ≤ n → St i s → HoldX w s.heap S xs i → (∀ s', Moved (S :: wr) G s s' → HoldX w s'.heap S xs n → R (.ok (.ret .none)) s') →
      codeAny (model prog w) A (.builtin "set.update.loop" ⟨[.ref S, .ref I], []⟩) R s := by
  have outw : S ∉ wr := fun m => out (W.sub _ m)
  have more : ∀ b ∈ wr, b ∈ S :: wr := fun b m => List.mem_cons_of_mem _ m
  intro k
  induction k with
  | zero =>
    intro i s e le st hS q
    obtain rfl : i = n := by omega
    refine codeAny_builtin PyProof.Rows.F.entry_set_update_loop ?_
    rw [Around.under_plainId PyProof.Rows.F.plain_set_update_loop _]
    refine wpAny_bind (m := pyNext (.ref I)) (W.done s _ _ st fun s' mv => ?_)
    exact wpAny_pure (q s' (mv.mono more) (hS.at fun o e => mv.heap S o outw e))
  | succ k ih =>
    intro i s e le st hS q
    have lt : i < n := by omega
    refine codeAny_builtin PyProof.Rows.F.entry_set_update_loop ?_
    rw [Around.under_plainId PyProof.Rows.F.plain_set_update_loop _]
    refine wpAny_bind (m := pyNext (.ref I)) (W.item i s _ _ lt st fun v s' hv st' mv => ?_)
    obtain ⟨x, t, hx, rfl⟩ := val i v hv
    obtain ⟨c, sc, cl, ce⟩ := hS.at (h' := s'.heap) fun o e => mv.heap S o outw e
    show wpAny _ A.in1 (holding [Value.str x t] (setAdd S (.str x t)) >>= _) _ _ s'
    refine wpAny_bind (wpAny_holding ?_)
    unfold setAdd
    refine wpAny_holding (wpAny_bind ((PySem.strKind prog w).pyHash (k := x) (PySem.strKind_is _ _ _ _) ?_))
    refine addT (s := { s' with toks := s'.toks + 1 }) sc (by omega) fun h' hsb sc2 => ?_
    have next : HoldX w h' S xs (i + 1) := by
      have tk : xs.take (i + 1) = xs.take i ++ [x] := by
        rw [List.take_add_one, hx]
        rfl
      have cg := sc2.is (S' := fun k => decide (k ∈ xs.take (i + 1))) (fun k' => by rw [tk]; simp)
      by_cases m : x ∈ xs.take i
      · rw [if_pos (decide_eq_true m)] at cg
        refine ⟨c, cg, by omega, fun nd => ?_⟩
        rw [tk] at nd
        exact absurd rfl ((List.nodup_append.mp nd).2.2 x m x (List.mem_singleton.mpr rfl))
      · rw [if_neg (by rw [decide_eq_false m]; exact Bool.false_ne_true)] at cg
        refine ⟨c + 1, cg, by omega, fun nd => ?_⟩
        rw [tk] at nd
        rw [ce (List.nodup_append.mp nd).1]
    refine wpAny_pure ⟨plainId_quiet PyProof.Rows.F.plain_set_update_loop _, ih (i + 1) _ (by omega) lt (W.frame _ s' _ _ st' (Nat.le_succ _) fun b mb o e => ?_) next fun s'' mv' hS' => ?_⟩
    · rw [hsb.2 b (fun z : b = S => out (z ▸ mb))]
      exact e
    · refine q s'' (Moved.trans W.gtrans ((mv.mono more).then_heap (Nat.le_succ _) fun b o nb e => ?_) mv') hS'
      rw [hsb.2 b (fun z : b = S => nb (z ▸ List.mem_cons_self))]
      exact e
end
end Cu

namespace Cu
open PySem PySem.Spec PyProof.Rows L2
/-! ### set(xs) of texts -/
abbrev setObj (w : World) : Obj := { cls := .type "set", dict := none, data := .set #[] 0 (.fresh 0 0 (!w.params.followText "set-order")) }
theorem hold_new {w : World} {h : Heap} {a : Addr} {xs : List Str} (e : h.get? a = some (setObj w)) : HoldX w h a xs 0 :=
  ⟨0, ⟨_, #[], 0, _, e, ⟨rfl, rfl, rfl⟩, rfl, fun _ m => by simp at m, by simp, fun k => by simp, by decide, rfl, rfl, List.Pairwise.nil, by
    show _ ∨ (!w.params.followText "set-order") = true
    cases w.params.followText "set-order"
    · exact .inr rfl
    · exact .inl rfl⟩, Nat.le_refl _, fun _ => rfl⟩
section
variable {P : Program} {w : World} {A : Around} {E : Value → Shared → Prop} {s : Shared}
theorem call_setX_tuple {l : Addr} {items : Array Value} (xs : List Str) {Q : Value → Shared → Prop} (calm : A.handled = none) (hl : s.heap.IsTuple l items) (hs : StrsAre items.toList xs) (few : xs.length + 1 < scanBound)
    (q : ∀ (h' : Heap) (tk : Nat), HoldX w h' s.heap.objs.size xs xs.length → (∀ b o, s.heap.get? b = some o → h'.get? b = some o) → Q (.ref s.heap.objs.size) { s with heap := h', toks := tk }) :
    wpAny (model P w) A (call (.type "set") [.ref l]) Q E s := by
  have sz : items.size = xs.length := by rw [← Array.length_toList, StrsAre.len_eq hs]
  obtain ⟨c, tl, m1⟩ := PySem.F.called_set.mro
  have m2 := PySem.F.called_set.made
  have m3 := PySem.F.called_set.sub
  refine wpAny_call (codeAny_of_tree ?_)
  show wpAny _ _ (callAny (.type "set") _) _ _ _
  refine wpAny_pure ⟨Code.quiet_builtin _ (by decide +kernel), codeAny_builtin PySem.F.entry_type_call ?_⟩
  rw [Around.under_plain (weight_type_call_type "set" [.ref l] []) rfl]
  have m4 := PySem.F.called_set.notType
  have m5 := PySem.F.called_set.canCreate
  have m6 := PySem.F.typeCall_set_1 (.ref l)
  repeat (any_goals (first | assumption | wp_step))
  refine codeAny_mono (L2.code_set_led1 (.ref l) (E := E) (Q₁ := fun y s1 => y = .ref s.heap.objs.size ∧ s1 = { s with heap := s.heap.push (setObj w) }) ⟨rfl, rfl⟩) fun r s1 hr => ?_
  cases r with
  | error e => exact hr
  | ok fl =>
    cases fl with
    | ret obj =>
      obtain ⟨rfl, rfl⟩ := hr
      have eS : (s.heap.push (setObj w)).get? s.heap.objs.size = some (setObj w) := Heap.get?_push_size _ rfl
      have tS : Shared.TypeIs { s with heap := s.heap.push (setObj w) } (.ref s.heap.objs.size) "set" := ⟨_, eS, rfl⟩
      have i1 := PySem.F.called_set.init.lookup
      have i2 := PySem.F.called_set.init.bind (.ref s.heap.objs.size)
      repeat (any_goals (first | assumption | wp_step))
      refine codeAny_mono (codeAny_call_builtin (R := wants (fun r s2 => r = .none ∧ ∃ h' tk, s2 = { s with heap := h', toks := tk } ∧ HoldX w h' s.heap.objs.size xs xs.length ∧ ∀ b o, s.heap.get? b = some o → h'.get? b = some o) E) PySem.F.called_set.init.plain PySem.F.entry_set_init (check_set_init_1 tS ?_)) fun r2 s2 hr2 => ?_
      · obtain ⟨⟨oc, od, odt, osl⟩, el, hc, nl, hd⟩ := hl
        simp only at hc hd
        subst hc
        subst hd
        have el1 : (s.heap.push (setObj w)).get? l = some { cls := .type "tuple", dict := od, data := .seq items nl, slots := osl } := Heap.get?_push_of_some _ el
        have n1 := PySem.F.sub_tuple_set
        have n2 := PySem.F.sub_tuple_frozenset
        have n3 : (Value.type "tuple" == Value.type "dict") = false := by decide
        have il : (s.heap.push (setObj w)).IsTuple l items := ⟨_, el1, rfl, nl, rfl⟩
        unfold Builtin.«set.__init__» noKeywords Builtin.Frozenset.updateFrom
        generalize hPI : pyIter = PI
        wp_walk
        subst hPI
        refine wpAny_pyIter_tuple il ?_
        refine wpAny_bind (wpAny_runValue ?_)
        have lS : l < s.heap.objs.size := Heap.lt_size el
        have calm3 : A.in1.in1.in1.handled = none := by simp [calm]
        have z1 : (s.heap.push (setObj w)).objs.size = s.heap.objs.size + 1 := Heap.size_push ..
        have lI : l ≠ (s.heap.push (setObj w)).objs.size := by
          rw [z1]
          exact Nat.ne_of_lt (Nat.lt_succ_of_lt lS)
        have out : s.heap.objs.size ∉ [(s.heap.push (setObj w)).objs.size, l] := by
          rw [z1]
          intro m
          rcases List.mem_cons.mp m with z | z
          · exact absurd z (Nat.ne_of_lt (Nat.lt_succ_self _))
          · have z' := List.mem_singleton.mp z
            rw [← z'] at lS
            exact Nat.lt_irrefl _ lS
        have val : ∀ (i : Nat) (v : Value), items[i]? = some v → ∃ x t, xs[i]? = some x ∧ v = .str x t := fun i v hv => by
          have hi : i < xs.length := by rw [← sz]; exact (Array.getElem?_eq_some_iff.mp hv).1
          obtain ⟨t, e⟩ := SS.strs_at hs i v (by rw [Array.getElem?_toList]; exact hv)
          refine ⟨xs[i], t, List.getElem?_eq_getElem hi, ?_⟩
          rw [e, List.getD_eq_getElem?_getD, List.getElem?_eq_getElem hi]
          rfl
        refine fillX ((Walks.tuple calm3 _ l lI items).toS) s.heap.objs.size out xs sz.symm (by rw [sz]; exact few) val (items.size - 0) 0 _ (by omega) (Nat.zero_le _) ⟨⟨_, Heap.get?_push_size _ rfl, rfl, rfl⟩, (il.push _)⟩ ?_ ?_
        · exact hold_new (Heap.get?_push_of_some _ eS)
        · intro s' mv hS'
          obtain ⟨h', g2, d', tk', os'⟩ := s'
          have eg : g2 = s.gens := mv.gens
          have ed : d' = s.drawn := mv.drawn
          have eo : os' = s.os := mv.os
          subst eg
          subst ed
          subst eo
          rw [sz] at hS'
          show wpAny _ _ _ _ _ _
          refine wpAny_pure ?_
          show wpAny _ _ (ret Value.none) _ _ _
          refine wpAny_pure ⟨rfl, h', tk', rfl, hS', fun b o e => ?_⟩
          have b0 : b < s.heap.objs.size := Heap.lt_size e
          refine mv.heap b o (fun m => ?_) (Heap.get?_push_of_some _ (Heap.get?_push_of_some _ e))
          rcases List.mem_cons.mp m with z | z
          · rw [z] at b0
            exact Nat.lt_irrefl _ b0
          · have z' := List.mem_singleton.mp z
            have z2 : b = (s.heap.push (setObj w)).objs.size := z'
            rw [z1] at z2
            rw [z2] at b0
            exact absurd b0 (Nat.not_lt_of_le (Nat.le_succ _))
      · cases r2 with
        | error e => exact hr2
        | ok fl2 =>
          cases fl2 with
          | ret r =>
            obtain ⟨rfl, h', tk, rfl, hS', keep⟩ := hr2
            repeat (any_goals (first | assumption | wp_step))
            exact q _ _ hS' keep
          | _ => exact hr2.elim
    | _ => exact hr.elim
theorem call_setX_list {l : Addr} {items : Array Value} (xs : List Str) {Q : Value → Shared → Prop} (calm : A.handled = none) (hl : s.heap.IsList l items) (hs : StrsAre items.toList xs) (few : xs.length + 1 < scanBound)
    (q : ∀ (h' : Heap) (tk : Nat), HoldX w h' s.heap.objs.size xs xs.length → (∀ b o, s.heap.get? b = some o → h'.get? b = some o) → Q (.ref s.heap.objs.size) { s with heap := h', toks := tk }) :
    wpAny (model P w) A (call (.type "set") [.ref l]) Q E s := by
  have sz : items.size = xs.length := by rw [← Array.length_toList, StrsAre.len_eq hs]
  obtain ⟨c, tl, m1⟩ := PySem.F.called_set.mro
  have m2 := PySem.F.called_set.made
  have m3 := PySem.F.called_set.sub
  refine wpAny_call (codeAny_of_tree ?_)
  show wpAny _ _ (callAny (.type "set") _) _ _ _
  refine wpAny_pure ⟨Code.quiet_builtin _ (by decide +kernel), codeAny_builtin PySem.F.entry_type_call ?_⟩
  rw [Around.under_plain (weight_type_call_type "set" [.ref l] []) rfl]
  have m4 := PySem.F.called_set.notType
  have m5 := PySem.F.called_set.canCreate
  have m6 := PySem.F.typeCall_set_1 (.ref l)
  repeat (any_goals (first | assumption | wp_step))
  refine codeAny_mono (L2.code_set_led1 (.ref l) (E := E) (Q₁ := fun y s1 => y = .ref s.heap.objs.size ∧ s1 = { s with heap := s.heap.push (setObj w) }) ⟨rfl, rfl⟩) fun r s1 hr => ?_
  cases r with
  | error e => exact hr
  | ok fl =>
    cases fl with
    | ret obj =>
      obtain ⟨rfl, rfl⟩ := hr
      have eS : (s.heap.push (setObj w)).get? s.heap.objs.size = some (setObj w) := Heap.get?_push_size _ rfl
      have tS : Shared.TypeIs { s with heap := s.heap.push (setObj w) } (.ref s.heap.objs.size) "set" := ⟨_, eS, rfl⟩
      have i1 := PySem.F.called_set.init.lookup
      have i2 := PySem.F.called_set.init.bind (.ref s.heap.objs.size)
      repeat (any_goals (first | assumption | wp_step))
      refine codeAny_mono (codeAny_call_builtin (R := wants (fun r s2 => r = .none ∧ ∃ h' tk, s2 = { s with heap := h', toks := tk } ∧ HoldX w h' s.heap.objs.size xs xs.length ∧ ∀ b o, s.heap.get? b = some o → h'.get? b = some o) E) PySem.F.called_set.init.plain PySem.F.entry_set_init (check_set_init_1 tS ?_)) fun r2 s2 hr2 => ?_
      · obtain ⟨⟨oc, od, odt, osl⟩, el, hc, nl, hd⟩ := hl
        simp only at hc hd
        subst hc
        subst hd
        have el1 : (s.heap.push (setObj w)).get? l = some { cls := .type "list", dict := od, data := .seq items nl, slots := osl } := Heap.get?_push_of_some _ el
        have n1 := PySem.F.sub_list_set
        have n2 := PySem.F.sub_list_frozenset
        have n3 : (Value.type "list" == Value.type "dict") = false := by decide
        have il : (s.heap.push (setObj w)).IsList l items := ⟨_, el1, rfl, nl, rfl⟩
        unfold Builtin.«set.__init__» noKeywords Builtin.Frozenset.updateFrom
        generalize hPI : pyIter = PI
        wp_walk
        subst hPI
        refine wpAny_pyIter_list il ?_
        refine wpAny_bind (wpAny_runValue ?_)
        have lS : l < s.heap.objs.size := Heap.lt_size el
        have calm3 : A.in1.in1.in1.handled = none := by simp [calm]
        have z1 : (s.heap.push (setObj w)).objs.size = s.heap.objs.size + 1 := Heap.size_push ..
        have lI : l ≠ (s.heap.push (setObj w)).objs.size := by
          rw [z1]
          exact Nat.ne_of_lt (Nat.lt_succ_of_lt lS)
        have out : s.heap.objs.size ∉ [(s.heap.push (setObj w)).objs.size, l] := by
          rw [z1]
          intro m
          rcases List.mem_cons.mp m with z | z
          · exact absurd z (Nat.ne_of_lt (Nat.lt_succ_self _))
          · have z' := List.mem_singleton.mp z
            rw [← z'] at lS
            exact Nat.lt_irrefl _ lS
        have val : ∀ (i : Nat) (v : Value), items[i]? = some v → ∃ x t, xs[i]? = some x ∧ v = .str x t := fun i v hv => by
          have hi : i < xs.length := by rw [← sz]; exact (Array.getElem?_eq_some_iff.mp hv).1
          obtain ⟨t, e⟩ := SS.strs_at hs i v (by rw [Array.getElem?_toList]; exact hv)
          refine ⟨xs[i], t, List.getElem?_eq_getElem hi, ?_⟩
          rw [e, List.getD_eq_getElem?_getD, List.getElem?_eq_getElem hi]
          rfl
        refine fillX ((Walks.list calm3 _ l lI items).toS) s.heap.objs.size out xs sz.symm (by rw [sz]; exact few) val (items.size - 0) 0 _ (by omega) (Nat.zero_le _) ⟨⟨_, Heap.get?_push_size _ rfl, rfl, rfl⟩, (il.push _)⟩ ?_ ?_
        · exact hold_new (Heap.get?_push_of_some _ eS)
        · intro s' mv hS'
          obtain ⟨h', g2, d', tk', os'⟩ := s'
          have eg : g2 = s.gens := mv.gens
          have ed : d' = s.drawn := mv.drawn
          have eo : os' = s.os := mv.os
          subst eg
          subst ed
          subst eo
          rw [sz] at hS'
          show wpAny _ _ _ _ _ _
          refine wpAny_pure ?_
          show wpAny _ _ (ret Value.none) _ _ _
          refine wpAny_pure ⟨rfl, h', tk', rfl, hS', fun b o e => ?_⟩
          have b0 : b < s.heap.objs.size := Heap.lt_size e
          refine mv.heap b o (fun m => ?_) (Heap.get?_push_of_some _ (Heap.get?_push_of_some _ e))
          rcases List.mem_cons.mp m with z | z
          · rw [z] at b0
            exact Nat.lt_irrefl _ b0
          · have z' := List.mem_singleton.mp z
            have z2 : b = (s.heap.push (setObj w)).objs.size := z'
            rw [z1] at z2
            rw [z2] at b0
            exact absurd b0 (Nat.not_lt_of_le (Nat.le_succ _))
      · cases r2 with
        | error e => exact hr2
        | ok fl2 =>
          cases fl2 with
          | ret r =>
            obtain ⟨rfl, h', tk, rfl, hS', keep⟩ := hr2
            repeat (any_goals (first | assumption | wp_step))
            exact q _ _ hS' keep
          | _ => exact hr2.elim
    | _ => exact hr.elim
end
end Cu

namespace Cu
open PySem PySem.Spec PyProof.Rows L2
section
variable {P : Program} {w : World} {A : Around} {E : Value → Shared → Prop} {s : Shared} {a b : Addr} {S : Str → Bool} {n m : Nat}
theorem entry_set_ne : entryFor table "set.__ne__" = some Builtin.«frozenset.__ne__» := entryFor_alias (id' := "frozenset.__ne__") (by kernel_rfl) rfl (by decide +kernel) (by kernel_rfl)
theorem size_at {o : Obj} {es : Array (Int × Value)} {ep : Nat} {t : SetTable} {Q : Nat → Shared → Prop} (e : s.heap.get? a = some o) (ed : o.data = .set es ep t) (f : t.fits es.size = true) (q : Q es.size s) : wpAny (model P w) A (Builtin.Frozenset.sizeOf a) Q E s := by
  unfold Builtin.Frozenset.sizeOf
  exact wpAny_bind (wpAny_setEntries_of e ed f (wpAny_pure q))
theorem quiet_tx {e : Int × Value} (x : Tx w e) : Builtin.Frozenset.quietEq e.2 = pure true := by
  obtain ⟨k, tk, e1, _⟩ := x
  rw [e1]
  rfl
theorem set_ne_same (x : SetX w s.heap a S n) (y : SetX w s.heap b S m) {Q : Value → Shared → Prop} (q : Q (.bool false) s) : wpAny (model P w) A (call (.builtin "set.__ne__") [.ref a, .ref b]) Q E s := by
  obtain ⟨o, es, ep, t, e1, ex1, ed1, T1⟩ := id x
  obtain ⟨o', es', ep', t', e2, ex2, ed2, T2⟩ := id y
  have tp1 : s.TypeIs (.ref a) "set" := ⟨o, e1, ex1.1⟩
  have tp2 : s.TypeIs (.ref b) "set" := ⟨o', e2, ex2.1⟩
  refine wpAny_call_entry PySem.F.slot_set_ne tp1 entry_set_ne ?_ (PySem.F.args_set_ne_2 _ _)
  refine wpAny_bind (m := Builtin.Frozenset.slot1 "__ne__" _) ?_
  unfold Builtin.Frozenset.slot1 slotArgs
  simp only [List.isEmpty_nil, Bool.not_true, Bool.false_eq_true, ↓reduceIte, bind_assoc, List.length_nil, bne_self_eq_false]
  refine wpAny_pure ?_
  try dsimp only
  unfold Builtin.Frozenset.isAnySet
  refine wpAny_bind (wpAny_bind (m := isInstance _ _) (wpAny_isInstance (b := true) tp2 sub_set_self (wpAny_pure ?_)))
  simp only [Bool.not_true, Bool.false_eq_true, ↓reduceIte]
  refine wpAny_bind (m := Builtin.Frozenset.addrOf _) (wpAny_pure ?_)
  refine wpAny_bind (m := Builtin.Frozenset.addrOf _) (wpAny_pure ?_)
  refine wpAny_bind (size_at e1 ed1 T1.fit ?_)
  refine wpAny_bind (size_at e2 ed2 T2.fit ?_)
  have nm : es.size = es'.size := by
    have p : (es.toList.map txt).Perm (es'.toList.map txt) := (List.perm_ext_iff_of_nodup T1.nd T2.nd).mpr fun k => (T1.mem k).symm.trans (T2.mem k)
    have l := p.length_eq
    rw [List.length_map, List.length_map, Array.length_toList, Array.length_toList] at l
    exact l
  rw [nm]
  simp only [bne_self_eq_false, Bool.false_eq_true, ↓reduceIte]
  refine wpAny_bind (wpAny_bind (m := _ <&&> _) (wpAny_bind (m := isInstance _ _) (wpAny_isInstance (b := false) tp1 PySem.F.sub_set_frozenset (wpAny_pure ?_))))
  simp only [Bool.not_true, Bool.false_eq_true, ↓reduceIte]
  unfold Builtin.Frozenset.subsetOf
  refine wpAny_bind (size_at e1 ed1 T1.fit ?_)
  refine wpAny_bind (size_at e2 ed2 T2.fit ?_)
  rw [nm]
  simp only [gt_iff_lt, Nat.lt_irrefl, ↓reduceIte]
  refine wpAny_bind (wpAny_setEpoch_of e1 ed1 T1.fit ?_)
  unfold Builtin.Frozenset.walkUnseen
  refine wpAny_bind (wpAny_bind (wpAny_setEntries_of e1 ed1 T1.fit (wpAny_bind (wpAny_setEntries_of e2 ed2 T2.fit ?_))))
  refine wpAny_bind (wpAny_forIn_list _ (fun l r s' => r = (none, ()) ∧ s' = s ∧ ∀ e ∈ l, Tx w e) _ ?_ ?_ _ _ ⟨rfl, rfl, fun e m => ?_⟩)
  · rintro e rest r s' ⟨rfl, rfl, all⟩
    obtain ⟨k, v⟩ := e
    have hv := quiet_tx (all _ List.mem_cons_self)
    dsimp only at hv ⊢
    rw [hv, pure_bind]
    exact wpAny_pure ⟨rfl, rfl, fun e m => all e (List.mem_cons_of_mem _ m)⟩
  · rintro r s' ⟨rfl, rfl, _⟩
    refine wpAny_pure ?_
    refine wpAny_bind (wpAny_forIn_list _ (fun l r s2 => r = (none, ()) ∧ s2 = s' ∧ ∀ e ∈ l, e ∈ es.toList) _ ?_ ?_ _ _ ⟨rfl, rfl, fun e m => m⟩)
    · rintro e rest r s2 ⟨rfl, rfl, all⟩
      have me := all e List.mem_cons_self
      obtain ⟨k, tk, h1, h2⟩ := T1.tx e me
      have kin : S k = true := (T1.mem k).mpr (List.mem_map.mpr ⟨e, me, by unfold txt; rw [h1]⟩)
      refine wpAny_bind (wpAny_holding ?_)
      rw [h1, h2]
      refine wpAny_setFind_of (knd := PySem.strKind P w) (k := k) (PySem.strKind_is P w k tk) rfl y.of fun r hr => ?_
      rw [kin] at hr
      cases r with
      | none => cases hr
      | some j =>
        simp only [Option.isNone_some, Bool.false_eq_true, ↓reduceIte]
        unfold Builtin.Frozenset.unchanged
        refine wpAny_bind (wpAny_bind (wpAny_setEpoch_of e1 ed1 T1.fit ?_))
        simp only [bne_self_eq_false, Bool.false_eq_true, ↓reduceIte]
        exact wpAny_pure (wpAny_pure ⟨rfl, rfl, fun e m => all e (List.mem_cons_of_mem _ m)⟩)
    · rintro r s2 ⟨rfl, rfl, _⟩
      exact wpAny_pure (wpAny_pure ⟨_, rfl, q⟩)
  · rcases List.mem_append.mp m with z | z
    · exact T1.tx e z
    · exact T2.tx e z
end
end Cu

namespace Cu
open PySem PySem.Spec PyProof.Rows L2
/-- the set of texts at a -/
def SetXO (w : World) (a : Addr) (S : Str → Bool) (n : Nat) : HO := .ext fun h => SetX w h a S n
section
variable {X : Cx}
theorem setXO_new {w : World} {P : Program} {H : Hp} {h : Heap} {a : Addr} {S : Str → Bool} {n : Nat} (x : SetX w h a S n) : ObjOk P w H h a (SetXO w a S n) := by
  obtain ⟨o, _, _, _, e, _⟩ := id x
  exact ⟨x, ⟨o, e⟩, fun h1 h2 p k => SetX.at p k⟩
theorem setXO_get {pins : List (Addr × Obj)} {σ : L2.St} {H : Hp} {s : Shared} {a : Addr} {S : Str → Bool} {n : Nat} (I : Inv X pins σ H s) (e : H a = some (SetXO X.w a S n)) : SetX X.w s.heap a S n := (I.hok a _ e).1
/-- set(xs) of texts -/
def rSetX (K : PySem.W.Frag) (w : World) : List V → Hp → VK → Prop := fun vs H Q => ∃ (l : Addr) (xs : List Str), vs = [.ref l] ∧ (SqL K H l (xs.map V.str) ∨ SqT K H l (xs.map V.str)) ∧ xs.length ≤ 4000 ∧
  ∀ (p : Addr) (n : Nat), H p = none → n ≤ xs.length → (xs.Nodup → n = xs.length) → Q (.ref p) (upd H p (SetXO w p (fun k => decide (k ∈ xs)) n))
theorem call_setX (hc : X.calm = true) : CallR X (.type "set") (rSetX X.K X.w) := by
  intro pins s σ H vs us Q I r h
  obtain ⟨l, xs, rfl, hs, few, q⟩ := h
  rw [Vals.ref1 r]
  have fin : ∀ (h' : Heap) (tk : Nat), HoldX X.w h' s.heap.objs.size xs xs.length → (∀ b o, s.heap.get? b = some o → h'.get? b = some o) → EP X pins σ Q (.ref s.heap.objs.size) { s with heap := h', toks := tk } := by
    rintro h' tk ⟨c, hx, cl, ce⟩ keep
    rw [List.take_length] at hx ce
    exact ⟨.ref _, upd H s.heap.objs.size (SetXO X.w s.heap.objs.size (fun k => decide (k ∈ xs)) c), I.laid keep (Nat.le_refl _) (setXO_new hx), rfl, q _ c (I.hok.fresh (Nat.le_refl _)) cl ce⟩
  rcases hs with hs | hs
  · obtain ⟨its, rv, pl, _⟩ := I.list hs
    exact call_setX_list xs (I.ok.hd hc) pl.isList (by simpa using strsAre_of rv) (by unfold scanBound; omega) fin
  · obtain ⟨its, rv, pl, _⟩ := I.tuple hs
    exact call_setX_tuple xs (I.ok.hd hc) pl (by simpa using strsAre_of rv) (by unfold scanBound; omega) fin
/-- len of a set of texts -/
def rLenX (w : World) : List V → Hp → VK → Prop := fun vs H Q => ∃ (a : Addr) (S : Str → Bool) (n : Nat), vs = [.ref a] ∧ H a = some (SetXO w a S n) ∧ Q (.int n) H
theorem few63 {n : Nat} (h : n < scanBound) : (n : Int) < 2 ^ 63 := by
  have : scanBound = 4096 := rfl
  omega
theorem call_lenX : CallR X (.builtin "len") (rLenX X.w) := by
  intro pins s σ H vs us Q I r h
  obtain ⟨a, S, n, rfl, e, q⟩ := h
  rw [Vals.ref1 r]
  obtain ⟨o, es, ep, t, eo, ex, ed, T⟩ := setXO_get I e
  obtain rfl : es.size = n := T.num
  have J := I.tok (s.toks + 1 + 1)
  refine call_len_set eo ex ed T.fit (few63 T.few) ?_
  exact ⟨.int es.size, H, J, ⟨_, rfl⟩, q⟩
/-- two sets of the same texts are not different -/
def rNeX (w : World) : R2 := fun x y H Q => ∃ (a b : Addr) (S S' : Str → Bool) (n m : Nat), x = .ref a ∧ y = .ref b ∧ H a = some (SetXO w a S n) ∧ H b = some (SetXO w b S' m) ∧ (∀ k, S k = S' k) ∧ Q (.bl false) H
theorem op_neX (hu : X.A.units < cLine) : OpR X (compareOp .NotEq) (rNeX X.w) := by
  intro pins s σ H x y v u Q I rx ry h
  obtain ⟨a, b, S, S', n, m, rfl, rfl, e1, e2, es, q⟩ := h
  cases rx
  cases ry
  have x1 := setXO_get I e1
  have x2 := (setXO_get I e2).is (S' := S) es
  obtain ⟨o, _, _, _, eo, ex, _⟩ := id x1
  obtain ⟨o', _, _, _, eo', ex', _⟩ := id x2
  have t1 : s.TypeIs (.ref a) "set" := ⟨o, eo, ex.1⟩
  have t2 : s.TypeIs (.ref b) "set" := ⟨o', eo', ex'.1⟩
  show wpAny _ _ (richCompare .NotEq (.ref a) (.ref b)) _ _ _
  refine wpAny_richCompare_same_room (T := "set") (id := "set.__ne__") t1 t2 PySem.F.slot_set_ne (set_ne_same x1 x2 ?_) hu
  refine ⟨(fun z => by cases z), ?_⟩
  exact ⟨.bl false, H, I, rfl, q⟩
/-- sorted of a set of texts -/
def rSortX (w : World) : List V → Hp → VK → Prop := fun vs H Q => ∃ (a : Addr) (S : Str → Bool) (n : Nat), vs = [.ref a] ∧ H a = some (SetXO w a S n) ∧ (∀ ks : List Str, ks.Nodup → (∀ k ∈ ks, S k = true) → ks.length < 64) ∧
  ∀ (ys : List Str) (p : Addr), ys.Nodup → sortedS ys = true → (∀ k, k ∈ ys ↔ S k = true) → ys.length = n → H p = none → Q (.ref p) (upd H p (.lst (ys.map V.str)))
theorem strs_of : ∀ (l : List Value), (∀ v ∈ l, ∃ k tk, v = Value.str k tk) → ∃ zs : List Str, StrsAre l zs ∧ zs = l.map fun v => match v with | .str k _ => k | _ => ""
  | [], _ => ⟨[], .nil, rfl⟩
  | v :: l, h => by
    obtain ⟨k, tk, rfl⟩ := h v List.mem_cons_self
    obtain ⟨zs, h1, h2⟩ := strs_of l fun u m => h u (List.mem_cons_of_mem _ m)
    exact ⟨k :: zs, .cons k tk h1, by rw [h2]; rfl⟩
theorem sortX {P : Program} {w : World} {A : Around} {E : Value → Shared → Prop} {s : Shared} {a : Addr} {S : Str → Bool} {n : Nat} {Q : Value → Shared → Prop} (x : SetX w s.heap a S n) (calm : A.handled = none) (h64 : n < 64)
    (q : ∀ s' p (out : Array Value) (c : Nat) (ys : List Str), (∀ b o, s.heap.get? b = some o → s'.heap.get? b = some o) → s'.gens = s.gens → s'.os = s.os → s.heap.objs.size ≤ p →
      s'.heap.get? p = some (seqObj "list" out c) → StrsAre out.toList ys → ys.Nodup → sortedS ys = true → (∀ k, k ∈ ys ↔ S k = true) → ys.length = n → Q (.ref p) s') :
    wpAny (model P w) A (call (.builtin "sorted") [.ref a]) Q E s := by
  obtain ⟨o, es, ep, t, eo, ex, ed, T⟩ := x
  refine Calls.call_function_entry kind_sorted plain_sorted entry_sorted (args_sorted1 _) ?_
  unfold Builtin.«sorted»
  refine wpAny_bind (m := checkCount "sorted" 1 1 _) (wpAny_pure ?_)
  refine wpAny_bind (collect_set (A := A.in1) calm ⟨o, eo, ex.1, ed⟩ T.fit T.few T.ris T.led fun s1 vs k1 hz g1 o1 pm => ?_)
  have vl : vs.length = n := by rw [pm.length_eq, List.length_map, Array.length_toList]; exact T.num
  obtain ⟨zs, hS, ez⟩ := strs_of vs fun v m => by
    obtain ⟨e, me, qe⟩ := List.mem_map.mp (pm.mem_iff.mp m)
    obtain ⟨k, tk, h1, _⟩ := T.tx e me
    exact ⟨k, tk, by rw [← qe]; exact h1⟩
  have pk : zs.Perm (es.toList.map txt) := by
    rw [ez]
    have z := pm.map fun v => (match v with | .str k _ => k | _ => "" : Str)
    rw [List.map_map] at z
    exact z
  refine wpAny_bind (wpAny_newList ?_ (by rw [vl, sizeLine_eq]; omega))
  have eL : (s1.heap.push (seqObj "list" vs.toArray 0)).get? s1.heap.objs.size = some (seqObj "list" vs.toArray 0) := Heap.get?_push_size _ rfl
  refine wpAny_bind (wpAny_holding (wpAny_call_entry slot_list_sort ⟨_, eL, rfl⟩ entry_list_sort (list_sort_treeK strKind_oneLt eL hS.keysOf (fun _ _ _ e => keyKind_strs (by rw [← e]; exact hS)) (by rw [vl]; exact h64) fun st' hp hs => ⟨_, rfl, ?_⟩) (args_list_sort _)))
  obtain ⟨ys, y1, y2, y3⟩ := sorted_out_str hS hp hs
  obtain ⟨c, hc⟩ := sortedHeap_at (vs := vs) (out := (arrOf st').map (·.2)) eL
  have pn : ys.Perm (es.toList.map txt) := y2.trans pk
  refine wpAny_pure ⟨_, rfl, q _ s1.heap.objs.size _ c ys (fun b u e => ?_) g1 o1 hz hc y1 (pn.nodup_iff.mpr T.nd) y3 (fun k => by rw [pn.mem_iff, ← T.mem k]) ?_⟩
  · have z := k1 b u e
    have lt := Heap.lt_size z
    show (sortedHeap (s1.heap.push (seqObj "list" vs.toArray 0)) s1.heap.objs.size vs _).get? b = some u
    rw [sortedHeap_old (Nat.ne_of_lt lt) (by rw [size_push']; exact Nat.lt_succ_of_lt lt)]
    exact Heap.get?_push_of_some _ z
  · rw [pn.length_eq, List.length_map, Array.length_toList]
    exact T.num
theorem call_sortX (hc : X.calm = true) : CallR X (.builtin "sorted") (rSortX X.w) := by
  intro pins s σ H vs us Q I r h
  obtain ⟨a, S, n, rfl, e, few, q⟩ := h
  rw [Vals.ref1 r]
  have h64 : n < 64 := by
    obtain ⟨_, es, _, _, _, _, _, T⟩ := setXO_get I e
    have z := few (es.toList.map txt) T.nd fun k m => (T.mem k).mpr m
    rw [List.length_map, Array.length_toList, T.num] at z
    exact z
  refine sortX (setXO_get I e) (I.ok.hd hc) h64 fun s' p out c ys k g o hp hg hs nd so hm hl => ?_
  have len : (ys.map V.str).length ≤ sizeLine := by rw [List.length_map, hl, sizeLine_eq]; omega
  have hn : H p = none := I.hok.fresh hp
  have J : Inv X pins σ (upd H p (.lst (ys.map V.str))) { s with heap := s'.heap, gens := s'.gens, drawn := s'.drawn, toks := s'.toks } :=
    I.call (ch := []) (Un.laid k hp hn) (I.hok.laid k hp ⟨len, out.toList, c, vals_of_strs hs, hg⟩) (by rw [g]; exact I.bare) (fun _ z => nomatch z)
  have e' : s' = { s with heap := s'.heap, gens := s'.gens, drawn := s'.drawn, toks := s'.toks } := by
    cases s'
    cases s
    cases o
    rfl
  rw [e']
  exact ⟨.ref p, _, J, rfl, q ys p nd so hm hl hn⟩
end
end Cu

namespace Cu
open PySem PySem.Spec PyProof.Rows L2
/-! ### enumerate(tuple) -/
section
variable {prog : Program} {w : World} {A : Around} {E : Value → Shared → Prop} {s : Shared}
theorem enum_newT (l : Addr) (items : Array Value) (n : Nat) (dct : Option Addr) (sl : Array (Option Value)) :
    Meets (Builtin.«enumerate.__new__» ⟨[.type "enumerate", .ref l], []⟩) (fun _ R s => s.heap.get? l = some { cls := .type "tuple", dict := dct, data := .seq items n, slots := sl } ∧
      R (.ok (.ret (.ref (s.heap.push { cls := .type "tuple_iterator", data := .fields #[.ref l, .int 0 0] }).objs.size)))
        { s with heap := (s.heap.push { cls := .type "tuple_iterator", data := .fields #[.ref l, .int 0 0] }).push { cls := .type "enumerate", data := .fields #[.none, .bool false, .ref s.heap.objs.size, rawInt 0, .none, .none] } }) :=
  .of_wp fun prog w A R s h => by
    obtain ⟨hp, g, d, tk, os⟩ := s
    obtain ⟨e, q⟩ := h
    have sub := sub_enumerate
    have tup : Heap.IsTuple (Shared.heap ⟨hp, g, d, tk, os⟩) l items := ⟨_, e, rfl, n, rfl⟩
    wp_walk using AutoSeq1.wpAny_loadPart' e
    refine wpAny_stack_any fun st => wpAny_pure ?_
    split
    · rename_i c _ _ _ _ _
      cases (c == Value.type "enumerate")
      · wp_walk using AutoSeq1.wpAny_loadPart' e, wpAny_pyIter_tuple tup
        exact ⟨_, rfl, q⟩
      · wp_walk using AutoSeq1.wpAny_loadPart' e, wpAny_pyIter_tuple tup
        exact ⟨_, rfl, q⟩
    · wp_walk using AutoSeq1.wpAny_loadPart' e, wpAny_pyIter_tuple tup
      exact ⟨_, rfl, q⟩
theorem call_enumT {l : Addr} {items : Array Value} {Q : Value → Shared → Prop} (tup : s.heap.IsTuple l items)
    (q : ∀ h', IsEnum h' (s.heap.objs.size + 1) s.heap.objs.size 0 .none → h'.IsTupleIter s.heap.objs.size l 0 → h'.objs.size = s.heap.objs.size + 2 →
      (∀ b o, s.heap.get? b = some o → h'.get? b = some o) → Q (.ref (s.heap.objs.size + 1)) { s with heap := h' }) :
    wpAny (model prog w) A (call (.type "enumerate") [.ref l]) Q E s := by
  obtain ⟨⟨c, dct, dt, sl⟩, e, hc, n, hd⟩ := tup
  replace hc : c = .type "tuple" := hc
  replace hd : dt = .seq items n := hd
  subst hc hd
  refine callType_new F.called_enumerate (by decide) (F.typeCall_enumerate_1 _) (F.newCall_enumerate_1 _) (fun obj => F.args_object_init_2 obj _) F.entry_enumerate_new (enum_newT l items n dct sl) ⟨e, ?_⟩
  have z1 : (s.heap.push { cls := .type "tuple_iterator", data := .fields #[.ref l, .int 0 0] }).objs.size = s.heap.objs.size + 1 := Heap.size_push ..
  show _ ∧ _
  rw [z1]
  have he : IsEnum ((s.heap.push { cls := .type "tuple_iterator", data := .fields #[.ref l, .int 0 0] }).push { cls := .type "enumerate", data := .fields #[.none, .bool false, .ref s.heap.objs.size, rawInt 0, .none, .none] }) (s.heap.objs.size + 1) s.heap.objs.size 0 .none := by
    have z := Heap.get?_push_size (s.heap.push { cls := .type "tuple_iterator", data := .fields #[.ref l, .int 0 0] }) (o := { cls := .type "enumerate", data := .fields #[.none, .bool false, .ref s.heap.objs.size, rawInt 0, .none, .none] }) rfl
    rw [z1] at z
    exact z
  exact ⟨⟨_, he, rfl⟩, q _ he ⟨_, Heap.get?_push_of_some _ (Heap.get?_push_size _ rfl), rfl, rfl⟩ (by rw [Heap.size_push, z1]) fun b o x => Heap.get?_push_of_some _ (Heap.get?_push_of_some _ x)⟩
end
/-- the tuple at a, each item in a new pair -/
def ItE (K : PySem.W.Frag) (a : Addr) : It :=
  ⟨fun i H => ∃ (xs : List V) (x : V), SqT K H a xs ∧ xs[i]? = some x, fun i H v H' => ∃ T x, v = .ref T ∧ H T = none ∧ H' = upd H T (.tup [.int (i : Nat), x]) ∧ ∀ xs, SqT K H a xs → xs[i]? = some x, fun i H => ∃ xs : List V, SqT K H a xs ∧ xs.length = i⟩
theorem turn_enumT {P : Program} {w : World} {K : PySem.W.Frag} {elts : List Expr} {kk : Nat} {tpos : Pos} (a e it : Addr) (ait : a ≠ it) (ae : a ≠ e) :
    Turn P w K (.Tuple elts kk tpos) (ItE K a) [e, it] e (fun i h => (∃ old, IsEnum h e it ((i : Nat) : Int) old) ∧ h.IsTupleIter it a i ∧ e ≠ it) where
  mem := by simp
  obj := fun i h st b hb => by
    obtain ⟨⟨old, he⟩, ⟨o, ho, hc, hd⟩, _⟩ := st
    rcases (by simpa using hb : b = e ∨ b = it) with z | z
    · rw [z]
      exact ⟨_, he, fun v q => nomatch q⟩
    · rw [z]
      exact ⟨o, ho, fun v q => by rw [hd] at q; cases q⟩
  keep := fun i h h' st k => let ⟨⟨old, he⟩, hi, hne⟩ := st; ⟨⟨old, k e (by simp) _ he⟩, hi.at fun o q => k it (by simp) o q, hne⟩
  item := by
    intro X hP hw hK hc i pins s σ H E I hf st hg
    subst hP hw hK
    obtain ⟨⟨old, he⟩, hit, hne⟩ := st
    obtain ⟨xs, x, hq, hx⟩ := hg
    obtain ⟨its, rv, p, hz⟩ := I.tuple hq
    obtain ⟨u, hu, ru⟩ := rv.get hx
    have el : e < s.heap.objs.size := Heap.lt_size he
    have il : it < s.heap.objs.size := by obtain ⟨_, q, _⟩ := hit; exact Heap.lt_size q
    have lt : i < its.toArray.size := by
      rw [List.size_toArray]
      exact (List.getElem?_eq_some_iff.mp hu).1
    have hd : X.A.in1.handled = none := I.ok.hd hc
    refine wpAny_pyNext_enum_itemD (Draws.tuple hd it a ait its.toArray) he ⟨hit, p⟩ lt hne (by simpa using ⟨hne, ae.symm⟩) fun y h' tk hy ho st' hT hsz hk => ?_
    obtain rfl : y = u := by
      have z : its.toArray[i]? = some y := hy
      rw [List.getElem?_toArray, hu] at z
      exact (Option.some.inj z).symm
    refine ⟨_, rfl, wpAny_letOwnedTupleGo_enum (s := { s with heap := h', toks := tk + 1 }) ho fun h'' he' sb => ?_⟩
    have hT2 : h''.get? s.heap.objs.size = some { cls := .type "tuple", data := .seq #[.int i tk, y] } := (sb.2 _ (Nat.ne_of_gt el)).trans hT
    have new : ObjOk X.prog X.w (upd H s.heap.objs.size (.tup [.int (i : Nat), x])) h'' s.heap.objs.size (.tup [.int (i : Nat), x]) :=
      ⟨by show 2 ≤ sizeLine; decide, [.int i tk, y], .cons ⟨_, rfl⟩ (.cons ru .nil), ⟨_, hT2, rfl, _, rfl⟩⟩
    have I1 : Inv X pins σ (upd H s.heap.objs.size (.tup [.int (i : Nat), x])) { s with heap := h'', toks := tk + 1 } :=
      I.turnedNew (ch := [e, it]) (fun b ob hb q => (sb.2 b (fun z => hb (by simp [z]))).trans (hk b ob (fun z => hb (by simp [z])) (fun z => hb (by simp [z])) q)) hf (Nat.le_refl _) new
    refine ⟨.ref s.heap.objs.size, _, I1, rfl, ⟨_, x, rfl, I.hok.fresh (Nat.le_refl _), rfl, fun ys hy => by rw [I.tuple_inj hy hq]; exact hx⟩, ⟨⟨y, ?_⟩, st'.1.at fun o q => (sb.2 it (Ne.symm hne)).trans q, hne⟩, fun b hb => ?_⟩
    · rw [show ((i + 1 : Nat) : Int) = (i : Int) + 1 by omega]
      exact he'
    · have lb : b < s.heap.objs.size := by
        rcases (by simpa using hb : b = e ∨ b = it) with z | z
        · rw [z]
          exact el
        · rw [z]
          exact il
      rw [upd_ne (Nat.ne_of_lt lb)]
      exact (hf b hb).1
  done := by
    intro X hP hw hK hc i pins s σ H E I hf st hg
    subst hP hw hK
    obtain ⟨⟨old, he⟩, hit, hne⟩ := st
    obtain ⟨xs, hq, hx⟩ := hg
    obtain ⟨its, rv, p, hz⟩ := I.tuple hq
    obtain ⟨f0, f1, f2, f3, f4, f5⟩ := hf it (by simp)
    have len : its.toArray.size = i := by rw [List.size_toArray, ← rv.length, hx]
    have hd : X.A.in1.handled = none := I.ok.hd hc
    refine wpAny_pyNext_enum_endD (i := (i : Int)) (Draws.tuple hd it a ait its.toArray) he ⟨by rw [len]; exact hit, p⟩ fun h' eb => ⟨rfl, I.turned (t' := s.toks) (fun b o hb q => eb b o hb q) f0 f1 f3 f4 f5⟩
  self := fun A i s Q E st h => let ⟨⟨_, he⟩, _⟩ := st; wpAny_pyIter_enum he h
def iEnumT (K : PySem.W.Frag) (ta : TA) : TI := fun σ H R => ta σ H fun vs H1 => ∃ a xs, vs = [.ref a] ∧ SqT K H1 a xs ∧ R (ItE K a) H1
theorem pi_enumT {X : Cx} {e : Expr} {ta : TA} {p pos tpos : Pos} {elts : List Expr} {kk : Nat} (hg : Gl X "enumerate") (hm : X.mg "enumerate" = none) (ha : PA X [e] ta) (hs : starEach [e] X.env = [(false, eval e X.env)] := by rfl) :
    PI X (.Tuple elts kk tpos) (.Call (.Name "enumerate" p) [e] [] pos) (iEnumT X.K ta) := by
  refine ⟨fun pins s σ H R I h => ?_⟩
  refine Call_ (ld_blt I hg hm boot_enumerate (PyProof.Rows.callWith_type1 (thn (ha.run pos pins s σ H _ I h) fun us s1 ⟨vs, H1, I1, r1, q1⟩ => ?_) hs rfl))
  obtain ⟨a, xs, rfl, hq, q⟩ := q1
  cases r1 with
  | cons r rr =>
    cases rr
    cases r
    obtain ⟨its, rv, tup, hz⟩ := I1.tuple hq
    have al : a < s1.heap.objs.size := by
      obtain ⟨o, e, _⟩ := tup
      exact Heap.lt_size e
    refine call_enumT tup fun h' he hit hsz hk => wpAny_pyIter_enum he ?_
    have I2 : Inv X pins σ H1 { s1 with heap := h' } := I1.kept (t' := s1.toks) hk
    refine ⟨s1.heap.objs.size + 1, [s1.heap.objs.size + 1, s1.heap.objs.size], _, _, H1, rfl, I2, turn_enumT a (s1.heap.objs.size + 1) s1.heap.objs.size (Nat.ne_of_lt al) (Nat.ne_of_lt (Nat.lt_succ_of_lt al)), ⟨⟨.none, he⟩, hit, Nat.succ_ne_self _⟩, fun b hb => ?_, q⟩
    have le : s1.heap.objs.size ≤ b := by
      rcases (by simpa using hb : b = s1.heap.objs.size + 1 ∨ b = s1.heap.objs.size) with z | z
      · rw [z]
        exact Nat.le_add_right _ _
      · rw [z]
        exact Nat.le_refl _
    exact I1.fpOk le (I1.hok.fresh le)
theorem walk_enumT {K : PySem.W.Frag} {a : Addr} {xs : List V} : Walk (ItE K a) xs.length (fun H => SqT K H a xs) (YPair (fun i => some (.int (i : Nat))) (fun i => xs[i]?)) := by
  refine ⟨fun i _ hi q => ⟨xs, xs[i], q, by simp [hi]⟩, fun _ q => ⟨xs, q, rfl⟩, fun i H v H' _ q y => ?_⟩
  obtain ⟨T, x, h1, h2, h3, h4⟩ := y
  exact ⟨T, .int (i : Nat), x, h1, h2, h3, rfl, h4 xs q⟩
end Cu

namespace Cu
open PySem PySem.Spec PyProof.Rows L2
/-! ### any(x in others for x in documents) -/
theorem src_tuple {prog : Program} {w : World} {P t : Addr} {s1 : Shared} {items : Array Value} (ht : s1.heap.IsTuple t items) (hP : P < s1.heap.objs.size) (nP : t ≠ P) : Src prog w P s1 (.ref t) items.size (fun i v => items[i]? = some v) := by
  intro A E Q h hh
  have lt : t < s1.heap.objs.size := by
    obtain ⟨o, e, _⟩ := ht
    exact Heap.lt_size e
  apply wpAny_pyIter_tuple ht
  refine h _ [s1.heap.objs.size, t] _ (fun A' hA => Walks.tuple hA _ t (Nat.ne_of_lt lt) items) ⟨⟨_, Heap.get?_push_size _ rfl, rfl, rfl⟩, ht.push _⟩ ?_
  intro b hb
  rcases List.mem_cons.mp hb with rfl | z
  · exact ⟨Nat.le_refl _, fun e => Nat.lt_irrefl _ (e ▸ hP)⟩
  · rw [List.mem_singleton.mp z]
    exact ⟨Nat.le_of_lt lt, nP⟩
theorem src_list {prog : Program} {w : World} {P t : Addr} {s1 : Shared} {items : Array Value} (ht : s1.heap.IsList t items) (hP : P < s1.heap.objs.size) (nP : t ≠ P) : Src prog w P s1 (.ref t) items.size (fun i v => items[i]? = some v) := by
  intro A E Q h hh
  have lt : t < s1.heap.objs.size := by
    obtain ⟨o, e, _⟩ := ht
    exact Heap.lt_size e
  apply wpAny_pyIter_list ht
  refine h _ [s1.heap.objs.size, t] _ (fun A' hA => Walks.list hA _ t (Nat.ne_of_lt lt) items) ⟨⟨_, Heap.get?_push_size _ rfl, rfl, rfl⟩, ht.at fun o e => Heap.get?_push_of_some _ e⟩ ?_
  intro b hb
  rcases List.mem_cons.mp hb with rfl | z
  · exact ⟨Nat.le_refl _, fun e => Nat.lt_irrefl _ (e ▸ hP)⟩
  · rw [List.mem_singleton.mp z]
    exact ⟨Nat.le_of_lt lt, nP⟩
/-- what a rule for any(..) asks, by the frame's names -/
def GenRs (X : Cx) (P : Addr) (scope : Scope) (x : Str) (elt : Expr) (R : L2.St → V → Hp → Nat → (Nat → Bool) → Prop) : Prop :=
  ∀ pins σ v H1 s1 u n tr, R σ v H1 n tr → GxR.TabG H1 P → Inv X pins σ H1 s1 → RelV v u → P < s1.heap.objs.size → ∃ Pf F, Src X.prog X.w P s1 u n Pf ∧ Calm X P scope x elt s1 Pf F ∧ TruthOf X.prog X.w X.A.in1 F tr
def tAnyG (P : Addr) (te : TE) (R : L2.St → V → Hp → Nat → (Nat → Bool) → Prop) : TE := fun σ H Q => te σ H fun v H1 => GxR.TabG H1 P ∧ ∃ n tr, R σ v H1 n tr ∧ ∀ H2, GxR.Tabbed P H1 H2 → Q (.bl ((List.range n).any tr)) H2
section
variable {X : Cx}
theorem pe_anyG {c P : Addr} {elt iter : Expr} {x : Str} {px p pos gpos : Pos} {scope : Scope} {te : TE} {k : Nat} {R : L2.St → V → Hp → Nat → (Nat → Bool) → Prop}
    (hr : Room k X.A) (hg : Gl X "any") (hm : X.mg "any" = none) (TB : GxR.TabB X.base X.mg c P) (hcode : X.env.code = .ref c) (S : GxR.GenS X.env scope x) (hi : PE X iter te) (rule : GenRs X P scope x elt R)
    (hs : ∀ v, genFold iter X.env v = pure v := by intro _; rfl)
    (he : starEach [.GeneratorExp elt [⟨.Name x px, iter, [], 0⟩] scope gpos] X.env = (false, eval (.GeneratorExp elt [⟨.Name x px, iter, [], 0⟩] scope gpos) X.env) :: starEach [] X.env := by rfl) :
    PE X (.Call (.Name "any" p) [.GeneratorExp elt [⟨.Name x px, iter, [], 0⟩] scope gpos] [] pos) (tAnyG P te R) := by
  constructor
  intro pins s σ H Q I h
  apply wpAny_Call_Name_kw
  apply ld_blt I hg hm (show bootBuiltins "any" = some (.builtin "any") by decide +kernel)
  apply PyProof.Rows.callWith_builtin1 _ he (by rfl)
  rw [he]
  show wpAny _ _ (spliced ((false, eval (.GeneratorExp elt [⟨.Name x px, iter, [], 0⟩] scope gpos) X.env) :: backTo pos (starEach [] X.env))) _ _ s
  apply Calls.spliced_cons
  apply gen_make (R := fun v H1 => ∃ n tr, R σ v H1 n tr ∧ ∀ H2, GxR.Tabbed P H1 H2 → Q (.bl ((List.range n).any tr)) H2) hr TB hcode S hi hs I h
  rintro v H1 s1 u ⟨n, tr, hR, q⟩ tab I1 ru ltP
  obtain ⟨Pf, F, sc, calm, tru⟩ := rule pins σ v H1 s1 u n tr hR tab I1 ru ltP
  refine ⟨n, Pf, F, sc, calm, ?_⟩
  rintro g s5 ⟨fp, wr, G, go, W, st, inv⟩
  apply Calls.spliced_nil
  apply call_any_walkS
  apply W.self 0 _ _ _ st
  refine ⟨g, fp, wr, G, n, F, go, tr, rfl, W, st, tru, ?_⟩
  intro s' mv
  obtain ⟨H2, tb, J⟩ := inv s' mv
  exact ⟨.bl _, H2, J, rfl, q H2 tb⟩
/-- the i-th of xs lies in ys -/
def inAt (xs ys : List V) (i : Nat) : Bool := match xs[i]? with
  | some x => inV x ys
  | none => false
theorem inAt_any (xs ys : List V) : (List.range xs.length).any (inAt xs ys) = xs.any fun x => inV x ys := by
  rw [Bool.eq_iff_iff, List.any_eq_true, List.any_eq_true]
  constructor
  · rintro ⟨i, hi, h⟩
    have lt := List.mem_range.mp hi
    unfold inAt at h
    rw [List.getElem?_eq_getElem lt] at h
    exact ⟨_, List.getElem_mem lt, h⟩
  · rintro ⟨x, hx, h⟩
    obtain ⟨i, lt, e⟩ := List.getElem_of_mem hx
    refine ⟨i, List.mem_range.mpr lt, ?_⟩
    unfold inAt
    rw [List.getElem?_eq_getElem lt, e]
    exact h
def RIn (K : PySem.W.Frag) (j : Nat) : L2.St → V → Hp → Nat → (Nat → Bool) → Prop := fun σ v H n tr => ∃ t p xs ys, v = .ref t ∧ SqT K H t xs ∧ σ[j]? = some (some (.ref p)) ∧ (SqL K H p ys ∨ SqT K H p ys) ∧ xs.all flatV = true ∧ ys.all flatV = true ∧ n = xs.length ∧ tr = inAt xs ys
theorem vals_at : ∀ {xs : List V} {us : List Value} {i : Nat} {u : Value}, Vals xs us → us[i]? = some u → ∃ x, xs[i]? = some x ∧ RelV x u
  | _, _, _, _, .nil, e => by cases e
  | x :: xs, u :: us, 0, _, .cons r t, e => by
    cases e
    exact ⟨x, rfl, r⟩
  | x :: xs, u :: us, i + 1, _, .cons r t, e => vals_at (i := i) t e
theorem vals_len : ∀ {xs : List V} {us : List Value}, Vals xs us → us.length = xs.length
  | _, _, .nil => rfl
  | _, _, .cons _ t => by rw [List.length_cons, List.length_cons, vals_len t]
theorem genR_in {P : Addr} {scope : Scope} {x o : Str} {j : Nat} {p1 p2 p3 : Pos} (hk : scope.kind = .function) (hl : scope.names.lookup x = some .local) (ho : scope.names.lookup o = some .free) (hj : X.N[j]? = some o) (hv : X.env.scope.names.lookup o = some .cell) (hc : X.env.kindOf o = some .cell)
    (clo : ∀ (cells : List (Str × Addr)) c, cells.lookup o = some c → (cloFrom cells scope.names []).lookup o = some c) (hd : (x == ("__debug__" : Str)) = false := by decide) (hd2 : (o == ("__debug__" : Str)) = false := by decide) (hd3 : (o == ("__classdict__" : Str)) = false := by decide) :
    GenRs X P scope x (.Compare (.Name x p1) [.In] [.Name o p2] p3) (RIn X.K j) := by
  rintro pins σ v H1 s1 u n tr ⟨t, p, xs, ys, rfl, hx, hσ, hy, fx, fy, rfl, rfl⟩ ⟨ps, hP, _⟩ I ru ltP
  cases ru
  have isP : s1.heap.get? P = some { cls := .none, data := .fields ps } := I.hok P _ hP
  obtain ⟨its, r, pl, _⟩ := I.tuple hx
  have notP : ∀ b ob, s1.heap.get? b = some ob → (∀ z, ob.data ≠ .fields z) → b ≠ P := by
    intro b ob e nf z
    rw [z, isP] at e
    cases e
    exact nf _ rfl
  have plT : s1.heap.IsTuple t its.toArray := pl
  have tP : t ≠ P := by
    obtain ⟨ob, e, _, m, hd⟩ := pl
    exact notP t ob e fun z e2 => by rw [hd] at e2; cases e2
  obtain ⟨m, _, look⟩ := I.loc
  obtain ⟨u, rp, lk⟩ := look j o _ hj hσ (.inr (.inl hv))
  cases rp
  obtain ⟨c, hcl, hcell⟩ : ∃ c, X.env.cells.lookup o = some c ∧ s1.heap.IsCell c (some (.ref p)) := by
    rcases lk with ⟨k1, _⟩ | ⟨_, k2⟩
    · rw [hc] at k1
      cases k1
    · exact k2
  refine ⟨fun i v => its.toArray[i]? = some v, fun i y => ∃ x, xs[i]? = some x ∧ y = .bool (inV x ys), ?_, ?_, ?_⟩
  · have := src_tuple (prog := X.prog) (w := X.w) plT ltP tP
    rw [List.size_toArray, vals_len r] at this
    exact this
  · intro cenv A' E' i v s2 m2 e1 e2 e3 e4 hh hv2 hn hm keep
    have hv3 : its[i]? = some v := by
      rw [List.getElem?_toArray] at hv2
      exact hv2
    obtain ⟨x', hx', rx⟩ := vals_at r hv3
    have f1 : flatV x' = true := List.all_eq_true.mp fx x' (List.mem_of_getElem? hx')
    have kf : cenv.scope.kind = .function := by rw [e1]; exact hk
    have cell2 : s2.heap.IsCell c (some (.ref p)) := by
      obtain ⟨ob, e, hd⟩ := hcell
      refine ⟨ob, keep c ob ?_ e, hd⟩
      exact notP c ob e fun z e2 => by rw [hd] at e2; cases e2
    refine wpAny_Compare1 ?_ (hm := rfl)
    refine wpAny_Name (wpAny_loadName_local kf (show cenv.scope.names.lookup x = some .local by rw [e1]; exact hl) hn hm ?_) hd
    refine wpAny_Name (wpAny_loadName_free kf (show cenv.scope.names.lookup o = some .free by rw [e1]; exact ho) (by rw [e4]; exact clo _ _ hcl) cell2 ?_ hd3) hd2
    rcases hy with hy | hy
    · obtain ⟨js, r2, pl2, _⟩ := I.list hy
      have l2 : s2.heap.IsList p js.toArray := pl2.isList.at fun ob e => keep p ob (by
        obtain ⟨ob2, e2, _, m, hd⟩ := pl2.isList
        exact notP p ob2 e2 fun z e2 => by rw [hd] at e2; cases e2) e
      refine SeqAt.in_listAt (eqU x') l2 (fun w hw => mem_eqAt rx f1 r2 fy w (by simpa using hw)) ⟨⟨x', hx', ?_⟩, GxR.keeps_refl _⟩
      rw [show js.toArray.any (eqU x') = js.any (eqU x') by simp, any_eqU r2 fy]
      rfl
    · obtain ⟨js, r2, pl2, _⟩ := I.tuple hy
      have pl3 : s1.heap.IsTuple p js.toArray := pl2
      have l2 : s2.heap.IsTuple p js.toArray := pl3.at fun ob e => keep p ob (by
        obtain ⟨ob2, e2, _, m, hd⟩ := pl2
        exact notP p ob2 e2 fun z e2 => by rw [hd] at e2; cases e2) e
      refine SeqAt.in_tupleAt (eqU x') l2 (fun w hw => mem_eqAt rx f1 r2 fy w (by simpa using hw)) ⟨⟨x', hx', ?_⟩, GxR.keeps_refl _⟩
      rw [show js.toArray.any (eqU x') = js.any (eqU x') by simp, any_eqU r2 fy]
      rfl
  · rintro i y s2 Q E ⟨x', hx', rfl⟩ q
    have e : inAt xs ys i = inV x' ys := by
      unfold inAt
      rw [hx']
    rw [e] at q
    exact wpAny_truthy_bool q
end
end Cu

namespace Cu
open PySem PySem.Spec PyProof.Rows L2
/-! ### tuple(a for a, b in pairs if c in b) -/
section
variable {prog : Program} {w : World} {A : Around} {E : Value → Shared → Prop} {s : Shared}
theorem letOwned_tupleiter {elts : List Expr} {x1 : Nat} {pos : Pos} {I l T : Addr} {i : Nat} {Q : Unit → Shared → Prop} (hit : s.heap.IsTupleIter I l i) (hQ : Q () s) :
    wpAny (model prog w) A (letOwnedTupleGo (.Tuple elts x1 pos) (.ref I) (.ref T)) Q E s := by
  obtain ⟨o, ho, hc, hd⟩ := hit
  unfold letOwnedTupleGo
  refine wpAny_bind (wpAny_load ho ?_)
  rw [hc, hd]
  dsimp only
  rw [if_neg]
  · exact wpAny_pure hQ
  · intro z
    rw [Bool.and_eq_true] at z
    exact absurd z.1 (by decide)
end
theorem walks_pairs {prog : Program} {w : World} {A : Around} (hh : A.handled = none) (I ax : Addr) (hne : ax ≠ I) (items : Array Value) (Ts : Nat → Addr) (vals : Nat → Array Value)
    (hit : ∀ j, j < items.size → items[j]? = some (.ref (Ts j))) (hTI : ∀ j, j < items.size → Ts j ≠ I) :
    WalksU prog w A I (I :: ax :: (List.range items.size).map Ts) [I] items.size (fun j v => j < items.size ∧ v = vals j)
      (fun j h => h.IsTupleIter I ax j ∧ h.IsTuple ax items ∧ ∀ k, k < items.size → h.IsTuple (Ts k) (vals k))
      (fun j T h => (j < items.size ∧ T = Ts j) ∧ h.IsTupleIter I ax (j + 1) ∧ h.IsTuple ax items ∧ ∀ k, k < items.size → h.IsTuple (Ts k) (vals k)) where
  sub := fun b m => by
    rw [List.mem_singleton.mp m]
    exact List.mem_cons_self
  frame := by
    rintro i h h' ⟨a1, a2, a3⟩ keep
    refine ⟨a1.at (keep I List.mem_cons_self), a2.at (keep ax (List.mem_cons_of_mem _ List.mem_cons_self)), fun n lt => (a3 n lt).at (keep (Ts n) ?_)⟩
    exact List.mem_cons_of_mem _ (List.mem_cons_of_mem _ (List.mem_map_of_mem (List.mem_range.mpr lt)))
  item := by
    rintro i s Q E lt ⟨a1, a2, a3⟩ q
    apply wpAny_pyNext_tuple_item a1 a2 (hit i lt)
    intro h' now rest
    have all : ∀ n, n < items.size → h'.IsTuple (Ts n) (vals n) := fun n l => (a3 n l).extBut rest.extBut (hTI n l)
    refine q _ _ h' s.toks ⟨lt, rfl⟩ (all i lt) ⟨⟨lt, rfl⟩, now, a2.extBut rest.extBut hne, all⟩ ?_
    intro b o nb e
    exact rest.extBut b o (fun z => nb (z ▸ List.mem_cons_self)) e
  go := by
    rintro _ _ _ i T s Q E ⟨_, a1, a2⟩ q
    exact letOwned_tupleiter a1 (q s.heap ⟨a1, a2⟩ fun _ _ _ e => e)
  apart := by
    rintro i T h ⟨⟨lt, rfl⟩, _⟩ m
    exact hTI i lt (List.mem_singleton.mp m)
  done := by
    rintro s Q E ⟨a1, a2, _⟩ q
    apply wpAny_pyNext_tuple_end hh a1 a2 (by simp)
    intro h' rest
    exact q h' s.toks fun b o nb e => rest b o (fun z => nb (z ▸ List.mem_cons_self)) e
  self := by
    rintro i s Q E ⟨a1, _⟩ q
    exact wpAny_pyIter_tupleiter a1 q
/-- what xv gives when it is walked from the state s1: n pairs -/
def SrcT (prog : Program) (w : World) (P : Addr) (s1 : Shared) (xv : Value) (n : Nat) (Pt : Nat → Array Value → Prop) : Prop :=
  ∀ (A : Around) (E : Value → Shared → Prop) (Q : Value → Shared → Prop),
    (∀ (o : Obj) (fp : List Addr) (go : Nat → Heap → Prop) (Mid : Nat → Addr → Heap → Prop), (∀ A' : Around, A'.handled = none → WalksU prog w A' s1.heap.objs.size fp [s1.heap.objs.size] n Pt go Mid) → go 0 (s1.heap.push o) → (∀ b ∈ fp, b ≤ s1.heap.objs.size ∧ b ≠ P) →
      Q (.ref s1.heap.objs.size) { s1 with heap := s1.heap.push o }) → A.handled = none → wpAny (model prog w) A (pyIter xv) Q E s1
/-- tests and element change nothing -/
def CalmT (X : Cx) (P : Addr) (scope : Scope) (xa xb : Str) (ifs : List Expr) (elt : Expr) (s1 : Shared) (Pt : Nat → Array Value → Prop) (pz : Nat → Bool) (F : Nat → Value → Prop) : Prop :=
  ∀ (cenv : Env) (A' : Around) (E' : Value → Shared → Prop) (i : Nat) (va vb : Value) (s2 : Shared) (m2 : Str → Option Value), cenv.scope = scope → cenv.globals = X.env.globals → cenv.builtins = builtinsNs → cenv.cells = cloFrom X.env.cells scope.names [] →
    A'.handled = none → Pt i #[va, vb] → s2.heap.Ns cenv.locals m2 → m2 xa = some va → m2 xb = some vb → (∀ b u, b ≠ P → s1.heap.get? b = some u → s2.heap.get? b = some u) →
    wpAny (model X.prog X.w) A' (forIn ifs true fun c r => if r = true then do let ok ← isTrue c cenv (eval c cenv); pure (ForInStep.yield ok) else pure (ForInStep.yield r)) (fun ok s3 => ok = pz i ∧ Keeps s2 s3) E' s2 ∧
    (pz i = true → wpAny (model X.prog X.w) A' (eval elt cenv) (fun y s3 => F i y ∧ Keeps s2 s3) E' s2)
/-- the generator g is ready to be walked by a builtin type -/
def SetT (X : Cx) (pins : List (Addr × Obj)) (σ : L2.St) (H1 : Hp) (P : Addr) (n : Nat) (F : Nat → Value → Prop) (g : Addr) (s5 : Shared) : Prop :=
  ∃ (fp wr : List Addr) (G : Array GenState → Array GenState → Prop) (go : Nat → Shared → Prop), WalksS X.prog X.w X.A.in1.in1.in1 g fp wr G n F go ∧ (∀ i s, go i s → s.TypeIs (.ref g) "generator") ∧ go 0 s5 ∧ (∀ b ∈ fp, b < s5.heap.objs.size) ∧ g ∈ fp ∧
    ∀ s', Moved wr G s5 s' → ∃ H2, GxR.Tabbed P H1 H2 ∧ Inv X pins σ H2 s'
section
variable {X : Cx} {pins : List (Addr × Obj)} {σ : L2.St} {H : Hp} {s : Shared}
theorem gen_makeT {c P : Addr} {elt iter : Expr} {xa xb : Str} {pa pb pt gpos : Pos} {kt : Nat} {ifs : List Expr} {scope : Scope} {te : TE} {k : Nat} {Q' : Value → Shared → Prop} {R : V → Hp → Prop}
    (hr : Room k X.A) (TB : GxR.TabB X.base X.mg c P) (hcode : X.env.code = .ref c) (S : GxR.GenS X.env scope xa) (Sb : scope.names.lookup xb = some .local) (hab : xa ≠ xb) (hi : PE X iter te) (hs : ∀ v, genFold iter X.env v = pure v) (I : Inv X pins σ H s)
    (h : te σ H fun v H1 => GxR.TabG H1 P ∧ R v H1)
    (src : ∀ v H1 s1 u, R v H1 → GxR.TabG H1 P → Inv X pins σ H1 s1 → RelV v u → P < s1.heap.objs.size → ∃ n Pt pz F, SrcT X.prog X.w P s1 u n Pt ∧ (∀ i vals, Pt i vals → ∃ va vb, vals = #[va, vb]) ∧ CalmT X P scope xa xb ifs elt s1 Pt pz F ∧
      ∀ g s5, SetT X pins σ H1 P (passing pz n 0).length (fun j y => ∃ i, (passing pz n 0)[j]? = some i ∧ F i y) g s5 → Q' (.ref g) s5) :
    wpAny (model X.prog X.w) X.A (eval (.GeneratorExp elt [⟨.Tuple [.Name xa pa, .Name xb pb] kt pt, iter, ifs, 0⟩] scope gpos) X.env) Q' X.xe s := by
  have dp : X.A.depth < recursionLimit := by
    have := hr.dp
    omega
  apply wpAny_GeneratorExp_walksQT hr.hd S.co (closure_ok S.free) S.cell S.dot S.loc Sb hab S.kind dp _ hs
  refine thn (hi.run pins s σ H _ I h) ?_
  rintro xv s1 ⟨v, H1, I1, r1, tab, hR⟩
  obtain ⟨ps, hP, tr⟩ := id tab
  have isP : s1.heap.get? P = some { cls := .none, data := .fields ps } := I1.hok P _ hP
  have ltP : P < s1.heap.objs.size := Heap.lt_size isP
  obtain ⟨n, Pt, pz, F, sc, two, calm, fin⟩ := src v H1 s1 xv hR tab I1 r1 ltP
  apply sc _ _ _ _ hr.hd
  intro o fp go Mid W st hfp
  have isP2 : (s1.heap.push o).get? P = some { cls := .none, data := .fields ps } := Heap.get?_push_of_some _ isP
  have cd : PySem.W.CodeHd (s1.heap.push o) c P := TB.code.keeps fun b u e => Heap.get?_push_of_some _ (I1.bk b u e)
  have lim2 := I1.nolimit.push o
  refine And.intro lim2 ?_
  have rest : ∀ (code : Value) (h3 : Heap) (tk : Nat) (qs : Array Value), Heap.ExtBut P (s1.heap.push o) h3 → (s1.heap.push o).objs.size ≤ h3.objs.size → h3.get? P = some { cls := .none, data := .fields qs } → (∃ more, qs = ps ++ more) → TriplesOk qs.toList →
      wpAny (model X.prog X.w) X.A (builtinsFor X.env.globals X.env.builtins) (fun bi s4 =>
        ∃ it fp wr n₀ Pt St₀ Mid pz F, Value.ref s1.heap.objs.size = .ref it ∧ (∀ A' : Around, A'.handled = none → WalksU X.prog X.w A' it fp wr n₀ Pt St₀ Mid) ∧ (∀ i vals, Pt i vals → ∃ va vb, vals = #[va, vb]) ∧ St₀ 0 s4.heap ∧ (∀ b ∈ fp, b < s4.heap.objs.size) ∧ s4.heap.NoLimit ∧ cStatics ∉ wr ∧
          (∀ href : Heap, (∀ b o, s4.heap.get? b = some o → href.get? b = some o) → QuietGenT X.prog X.w (genEnv scope (cloFrom X.env.cells scope.names []) s4.heap.objs.size code bi X.env) xa xb ifs elt (List.range s4.heap.objs.size) wr Pt pz F href) ∧
          (∀ a h₅ tk gs, gs.bare = true → s4.heap.objs.size < a → h₅.objs.size = a + 1 → (∀ b o, s4.heap.get? b = some o → h₅.get? b = some o) →
            WalksS X.prog X.w X.A.in4 a (a :: s4.heap.objs.size :: List.range s4.heap.objs.size) (s4.heap.objs.size :: wr) (GenOnlyQ s4.gens.size) (passing pz n₀ 0).length
              (fun j y => ∃ i, (passing pz n₀ 0)[j]? = some i ∧ F i y) (GenAt X.prog X.w X.A.in4 a s4.gens.size s4.heap.objs.size (List.range s4.heap.objs.size) wr pz n₀ F) →
            GenAt X.prog X.w X.A.in4 a s4.gens.size s4.heap.objs.size (List.range s4.heap.objs.size) wr pz n₀ F 0 { s4 with gens := s4.gens.push gs, toks := tk, heap := h₅ } →
            Q' (.ref a) { s4 with gens := s4.gens.push gs, toks := tk, heap := h₅ })) X.xe { s1 with heap := h3, toks := tk } := by
    intro code h3 tk qs ex size isP3 grown tr3
    obtain ⟨bm, ob, b1, b2, b3, b4, b5, b6, b7, b8⟩ := TB.bm
    have old3 : ∀ b u, b ≠ P → s1.heap.get? b = some u → h3.get? b = some u := fun b u nb e => ex b u nb (Heap.get?_push_of_some _ e)
    have itlt : s1.heap.objs.size < h3.objs.size := by
      have q : (s1.heap.push o).objs.size = s1.heap.objs.size + 1 := Heap.size_push ..
      omega
    obtain ⟨mc, nsc, _⟩ := id I1.nolimit
    have ltc : cStatics < s1.heap.objs.size := nsc.lt
    have ncP : cStatics ≠ P := by
      intro e
      obtain ⟨o', es, ep, ho, hd, _⟩ := nsc
      rw [e, isP] at ho
      cases ho
      cases hd
    have gl : h3.Ns X.env.globals X.mg := by
      rw [I1.ok.glob]
      exact ((I1.mod.glob.keeps I1.bk).push o).extBut ex TB.gP
    apply wpAny_builtinsFor gl b1 b2 (old3 _ _ b4 (I1.bk _ _ b5)) b6 b7 b8
    refine ⟨s1.heap.objs.size, fp, [s1.heap.objs.size], n, Pt, go, Mid, pz, F, rfl, W, two, ?_, ?_, lim2.extBut ex ncP, ?_, ?_, ?_⟩
    · exact (W X.A hr.hd).frame _ _ _ st fun b hb u e => ex b u (hfp b hb).2 e
    · intro b hb
      exact Nat.lt_of_le_of_lt (hfp b hb).1 itlt
    · intro z
      rcases List.mem_cons.mp z with z | z
      · exact Nat.ne_of_lt ltc z
      · cases z
    · intro href kept
      have was : ∀ s2 : Shared, (∀ b ∈ List.range h3.objs.size, b ∉ [s1.heap.objs.size] → ∀ o, href.get? b = some o → s2.heap.get? b = some o) → ∀ b u, b ≠ P → s1.heap.get? b = some u → s2.heap.get? b = some u := by
        intro s2 hk b u nb e
        have l1 := Heap.lt_size e
        refine hk b (List.mem_range.mpr (Nat.lt_trans l1 itlt)) ?_ u (kept b u (old3 b u nb e))
        intro z
        rcases List.mem_cons.mp z with z | z
        · exact Nat.ne_of_lt l1 z
        · cases z
      constructor
      · intro A' E' i va vb s2 m2 hA hPv hn hm hm' hk
        exact (calm (genEnv scope (cloFrom X.env.cells scope.names []) h3.objs.size code builtinsNs X.env) A' E' i va vb s2 m2 rfl rfl rfl rfl hA hPv hn hm hm' (was s2 hk)).1
      · intro A' E' i va vb s2 m2 hA hPv hp hn hm hm' hk
        exact (calm (genEnv scope (cloFrom X.env.cells scope.names []) h3.objs.size code builtinsNs X.env) A' E' i va vb s2 m2 rfl rfl rfl rfl hA hPv hn hm hm' (was s2 hk)).2 hp
    · intro g h5 tk5 gs bare lt5 sz5 keep5 W5 at5
      refine fin g _ ⟨_, _, _, _, W5.in4_3, ?_, at5, ?_, List.mem_cons_self, ?_⟩
      · rintro i s ⟨⟨ob, _, _, e, hc, _⟩, _⟩
        exact ⟨ob, e, hc⟩
      · intro b hb
        show b < h5.objs.size
        rw [sz5]
        have lt5' : h3.objs.size < g := lt5
        rcases List.mem_cons.mp hb with z | z
        · rw [z]
          exact Nat.lt_succ_self _
        · rcases List.mem_cons.mp z with z | z
          · rw [z]
            exact Nat.lt_succ_of_lt lt5'
          · exact Nat.lt_succ_of_lt (Nat.lt_trans (List.mem_range.mp z) lt5')
      · intro s' mv
        obtain ⟨more, em⟩ := grown
        have out : ∀ b u, s1.heap.get? b = some u → b ∉ h3.objs.size :: [s1.heap.objs.size] := by
          intro b u e hb
          have l1 : b < s1.heap.objs.size := Heap.lt_size e
          rcases List.mem_cons.mp hb with z | z
          · exact Nat.lt_irrefl _ (Nat.lt_trans (z ▸ l1 : (h3.objs.size : Nat) < s1.heap.objs.size) itlt)
          · rcases List.mem_cons.mp z with z | z
            · exact Nat.ne_of_lt l1 z
            · cases z
        have other : ∀ b u, b ≠ P → s1.heap.get? b = some u → s'.heap.get? b = some u := fun b u nb e => mv.heap b u (out b u e) (keep5 b u (old3 b u nb e))
        have tabNow : s'.heap.get? P = some { cls := .none, data := .fields (ps ++ more) } := by
          rw [← em]
          exact mv.heap P _ (out P _ isP) (keep5 P _ isP3)
        have J := GxR.inv_tab (more := more) (h' := s'.heap) (g' := s'.gens) (d' := s'.drawn) (t' := s'.toks) I1 hP other tabNow (AllBare.movedS (I1.bare.push bare) mv)
        rw [GxR.sh_eta s1 s' mv.os] at J
        refine ⟨upd H1 P (.tbl (ps ++ more)), ⟨⟨ps ++ more, upd_same, ?_⟩, fun b nb => upd_ne nb⟩, J⟩
        rw [← em]
        exact tr3
  cases hit : codeAmong gpos ps.toList with
  | none =>
    apply wpAny_genexprCodeX hcode (cd.code isP2 tr) (cd.tab isP2) hit
    intro c' h' tk ex ge lt co' _ tab' _
    obtain ⟨o1, vs, f1, tf, fl, tg, inF, tx, tt, op, _, _, _, _, _, _, _, _, _, tr', _⟩ := co'
    exact rest _ h' tk _ ex (Nat.le_trans ge (Nat.le_of_lt lt)) tab'.2 ⟨_, rfl⟩ tr'
  | some cv =>
    apply wpAny_genexprCode_hit hcode (cd.code isP2 tr) hit
    exact rest cv (s1.heap.push o) s1.toks ps (Heap.ExtBut.refl _ _) (Nat.le_refl _) isP2 ⟨#[], by simp⟩ tr
/-- a row: where it lies, its first part, where its second part lies, what that holds -/
abbrev Row := Addr × V × Addr × List V
abbrev row0 : Row := (0, .non, 0, [])
/-- v is a tuple of these rows -/
structure Rows_ (K : PySem.W.Frag) (H : Hp) (v : V) (rows : List Row) : Prop where
  at_ : ∃ t, v = .ref t ∧ SqT K H t (rows.map fun r => V.ref r.1)
  each : ∀ r ∈ rows, SqT K H r.1 [r.2.1, .ref r.2.2.1] ∧ SqT K H r.2.2.1 r.2.2.2 ∧ r.2.2.2.all flatV = true
def RRow (P : Addr) (K : PySem.W.Frag) (j : Nat) (σ : L2.St) (Q : VK) (v : V) (H1 : Hp) : Prop := ∃ (rows : List Row) (x0 : V), Rows_ K H1 v rows ∧ σ[j]? = some (some x0) ∧ flatV x0 = true ∧
  ∀ H2, GxR.Tabbed P H1 H2 → ∀ l, H2 l = none → Q (.ref l) (upd H2 l (.tup ((rows.filter fun r => inV x0 r.2.2.2).map fun r => r.2.1)))
def tRows (P : Addr) (te : TE) (K : PySem.W.Frag) (j : Nat) : TE := fun σ H Q => te σ H fun v H1 => GxR.TabG H1 P ∧ RRow P K j σ Q v H1
theorem rows_range (rows : List Row) : (List.range rows.length).map (fun i => rows.getD i row0) = rows := by
  apply List.ext_getElem
  · rw [List.length_map, List.length_range]
  · intro i h1 h2
    rw [List.getElem_map, List.getElem_range, List.getD_eq_getElem?_getD, List.getElem?_eq_getElem h2]
    rfl
theorem rows_vals {K : PySem.W.Frag} {X : Cx} {pins : List (Addr × Obj)} {σ : L2.St} {H : Hp} {s : Shared} (I : Inv X pins σ H s) : ∀ rows : List Row, (∀ r ∈ rows, SqT X.K H r.1 [r.2.1, .ref r.2.2.1]) → ∃ us : List Value, us.length = rows.length ∧
    ∀ i, i < rows.length → RelV (rows.getD i row0).2.1 (us.getD i .none) ∧ s.heap.IsTuple (rows.getD i row0).1 #[us.getD i .none, .ref (rows.getD i row0).2.2.1]
  | [], _ => ⟨[], rfl, fun i h => absurd h (Nat.not_lt_zero _)⟩
  | r :: rs, h => by
    obtain ⟨us, l, hu⟩ := rows_vals (K := K) I rs fun r' m => h r' (List.mem_cons_of_mem _ m)
    obtain ⟨its, vs, pl, _⟩ := I.tuple (h r List.mem_cons_self)
    cases vs with
    | cons r1 t1 =>
      cases t1 with
      | cons r2 t2 =>
        cases t2
        cases r2
        rename_i u0
        refine ⟨u0 :: us, by rw [List.length_cons, List.length_cons, l], fun i hi => ?_⟩
        cases i with
        | zero => exact ⟨r1, pl⟩
        | succ i => exact hu i (Nat.lt_of_succ_lt_succ hi)
theorem vals_of : ∀ {xs : List V} {us : List Value}, xs.length = us.length → (∀ (i : Nat) (u : Value), us[i]? = some u → ∃ x, xs[i]? = some x ∧ RelV x u) → Vals xs us
  | [], [], _, _ => .nil
  | x :: xs, u :: us, l, h => by
    obtain ⟨x', e, r⟩ := h 0 u rfl
    cases e
    exact .cons r (vals_of (Nat.succ.inj l) fun i v hv => h (i + 1) v hv)
  | [], _ :: _, l, _ => by cases l
  | _ :: _, [], l, _ => by cases l
theorem pe_tupG {c P : Addr} {iter : Expr} {xa xb o : Str} {j : Nat} {pa pb pt p pos gpos p1 p2 p3 p4 : Pos} {kt : Nat} {scope : Scope} {te : TE} {k : Nat}
    (hr : Room k X.A) (hg : Gl X "tuple") (hm : X.mg "tuple" = none) (TB : GxR.TabB X.base X.mg c P) (hcode : X.env.code = .ref c) (S : GxR.GenS X.env scope xa) (Sb : scope.names.lookup xb = some .local) (hab : xa ≠ xb) (hi : PE X iter te)
    (ho : scope.names.lookup o = some .free) (hj : X.N[j]? = some o) (hv : X.env.scope.names.lookup o = some .cell) (hc : X.env.kindOf o = some .cell) (clo : ∀ (cells : List (Str × Addr)) c, cells.lookup o = some c → (cloFrom cells scope.names []).lookup o = some c)
    (hs : ∀ v, genFold iter X.env v = pure v := by intro _; rfl) (hd : (xa == ("__debug__" : Str)) = false := by decide) (hdb : (xb == ("__debug__" : Str)) = false := by decide) (hd2 : (o == ("__debug__" : Str)) = false := by decide) (hd3 : (o == ("__classdict__" : Str)) = false := by decide)
    (he : starEach [.GeneratorExp (.Name xa p1) [⟨.Tuple [.Name xa pa, .Name xb pb] kt pt, iter, [.Compare (.Name o p2) [.In] [.Name xb p3] p4], 0⟩] scope gpos] X.env = (false, eval (.GeneratorExp (.Name xa p1) [⟨.Tuple [.Name xa pa, .Name xb pb] kt pt, iter, [.Compare (.Name o p2) [.In] [.Name xb p3] p4], 0⟩] scope gpos) X.env) :: starEach [] X.env := by rfl) :
    PE X (.Call (.Name "tuple" p) [.GeneratorExp (.Name xa p1) [⟨.Tuple [.Name xa pa, .Name xb pb] kt pt, iter, [.Compare (.Name o p2) [.In] [.Name xb p3] p4], 0⟩] scope gpos] [] pos) (tRows P te X.K j) := by
  constructor
  intro pins s σ H Q I h
  apply wpAny_Call_Name_kw
  apply ld_blt I hg hm (show bootBuiltins "tuple" = some (.type "tuple") by decide +kernel)
  apply PyProof.Rows.callWith_type1 _ he (by rfl)
  rw [he]
  show wpAny _ _ (spliced ((false, eval (.GeneratorExp (.Name xa p1) [⟨.Tuple [.Name xa pa, .Name xb pb] kt pt, iter, [.Compare (.Name o p2) [.In] [.Name xb p3] p4], 0⟩] scope gpos) X.env) :: backTo pos (starEach [] X.env))) _ _ s
  apply Calls.spliced_cons
  apply gen_makeT (R := RRow P X.K j σ Q) hr TB hcode S Sb hab hi hs I h
  rintro v H1 s1 u ⟨rows, x0, ⟨⟨t, rfl, sq⟩, each⟩, hσ, f0, q⟩ ⟨ps, hP, _⟩ I1 ru ltP
  cases ru
  have isP : s1.heap.get? P = some { cls := .none, data := .fields ps } := I1.hok P _ hP
  have notP : ∀ b ob, s1.heap.get? b = some ob → (∀ z, ob.data ≠ .fields z) → b ≠ P := by
    intro b ob e nf z
    rw [z, isP] at e
    cases e
    exact nf _ rfl
  have tupP : ∀ b its, s1.heap.IsTuple b its → b ≠ P := by
    rintro b its ⟨ob, e, _, m, hd⟩
    exact notP b ob e fun z e2 => by rw [hd] at e2; cases e2
  obtain ⟨its, vs, pl, small⟩ := I1.tuple sq
  have plT : s1.heap.IsTuple t its.toArray := pl
  have li := vals_len vs
  rw [List.length_map] at li small
  obtain ⟨us, lu, hu⟩ := rows_vals (K := X.K) I1 rows fun r m => (each r m).1
  have mem : ∀ i, i < rows.length → rows.getD i row0 ∈ rows := by
    intro i hi
    rw [List.getD_eq_getElem?_getD, List.getElem?_eq_getElem hi]
    exact List.getElem_mem hi
  obtain ⟨m, _, look⟩ := I1.loc
  obtain ⟨u0, r0, lk⟩ := look j o _ hj hσ (.inr (.inl hv))
  obtain ⟨cc, hcl, hcell⟩ : ∃ c, X.env.cells.lookup o = some c ∧ s1.heap.IsCell c (some u0) := by
    rcases lk with ⟨k1, _⟩ | ⟨_, k2⟩
    · rw [hc] at k1
      cases k1
    · exact k2
  have szT : its.toArray.size = rows.length := by rw [List.size_toArray, li]
  have itemAt : ∀ i, i < its.toArray.size → its.toArray[i]? = some (.ref (rows.getD i row0).1) := by
    intro i hi
    rw [szT] at hi
    have hi2 : i < its.length := by omega
    rw [List.getElem?_toArray, List.getElem?_eq_getElem hi2]
    obtain ⟨x, hx, rx⟩ := vals_at vs (List.getElem?_eq_getElem hi2)
    rw [List.getElem?_map, List.getElem?_eq_getElem hi] at hx
    cases hx
    have e : rows.getD i row0 = rows[i] := by
      rw [List.getD_eq_getElem?_getD, List.getElem?_eq_getElem hi]
      rfl
    rw [e]
    exact congrArg some rx
  have ltH : ∀ b its, s1.heap.IsTuple b its → b < s1.heap.objs.size := by
    rintro b its ⟨ob, e, _⟩
    exact Heap.lt_size e
  refine ⟨its.toArray.size, fun i v => i < its.toArray.size ∧ v = #[us.getD i .none, .ref (rows.getD i row0).2.2.1], fun i => inV x0 (rows.getD i row0).2.2.2, fun i y => i < its.toArray.size ∧ y = us.getD i .none, ?_, ?_, ?_, ?_⟩
  · intro A E Q h hh
    apply wpAny_pyIter_tuple plT
    refine h _ _ _ _ (fun A' hA => walks_pairs hA _ t (Nat.ne_of_lt (ltH _ _ plT)) its.toArray (fun i => (rows.getD i row0).1) (fun i => #[us.getD i .none, .ref (rows.getD i row0).2.2.1]) itemAt fun i hi => Nat.ne_of_lt (ltH _ _ (hu i (szT ▸ hi)).2)) ⟨⟨_, Heap.get?_push_size _ rfl, rfl, rfl⟩, plT.push _, fun i hi => (hu i (szT ▸ hi)).2.push _⟩ ?_
    intro b hb
    rcases List.mem_cons.mp hb with rfl | z
    · exact ⟨Nat.le_refl _, fun e => Nat.lt_irrefl _ (e ▸ ltP)⟩
    · rcases List.mem_cons.mp z with rfl | z
      · exact ⟨Nat.le_of_lt (ltH _ _ plT), tupP _ _ plT⟩
      · obtain ⟨i, mi, rfl⟩ := List.mem_map.mp z
        have hi := List.mem_range.mp mi
        rw [szT] at hi
        exact ⟨Nat.le_of_lt (ltH _ _ (hu i hi).2), tupP _ _ (hu i hi).2⟩
  · rintro i vals ⟨_, rfl⟩
    exact ⟨_, _, rfl⟩
  · intro cenv A' E' i va vb s2 m2 e1 e2 e3 e4 hh hv2 hn hma hmb keep
    obtain ⟨hi, ev⟩ := hv2
    have eva : va = us.getD i .none := by
      have := congrArg (fun a : Array Value => a[0]?) ev
      exact Option.some.inj this
    have evb : vb = .ref (rows.getD i row0).2.2.1 := by
      have := congrArg (fun a : Array Value => a[1]?) ev
      exact Option.some.inj this
    subst eva evb
    have hi2 : i < rows.length := szT ▸ hi
    have kf : cenv.scope.kind = .function := by rw [e1]; exact S.kind
    have cell2 : s2.heap.IsCell cc (some u0) := by
      obtain ⟨ob, e, hd⟩ := hcell
      refine ⟨ob, keep cc ob ?_ e, hd⟩
      exact notP cc ob e fun z e2 => by rw [hd] at e2; cases e2
    obtain ⟨_, sq2, fl⟩ := each _ (mem i hi2)
    obtain ⟨js, r2, pl2, _⟩ := I1.tuple sq2
    have pl3 : s1.heap.IsTuple (rows.getD i row0).2.2.1 js.toArray := pl2
    have l2 : s2.heap.IsTuple (rows.getD i row0).2.2.1 js.toArray := pl3.at fun ob e => keep _ ob (tupP _ _ pl3) e
    constructor
    · simp only [List.forIn_cons, List.forIn_nil]
      refine wpAny_bind ?_
      simp only [if_pos]
      refine wpAny_bind ?_
      refine wpAny_isTrue_Compare1 ?_ (hm := rfl)
      refine wpAny_Name (wpAny_loadName_free kf (show cenv.scope.names.lookup o = some .free by rw [e1]; exact ho) (by rw [e4]; exact clo _ _ hcl) cell2 ?_ hd3) hd2
      refine wpAny_Name (wpAny_loadName_local kf (show cenv.scope.names.lookup xb = some .local by rw [e1]; exact Sb) hn hmb ?_) hdb
      refine SeqAt.in_tupleAt (eqU x0) l2 (fun w hw => mem_eqAt r0 f0 r2 fl w (by simpa using hw)) ?_
      apply wpAny_truthy_bool
      refine wpAny_pure (wpAny_pure ⟨?_, GxR.keeps_refl _⟩)
      rw [show js.toArray.any (eqU x0) = js.any (eqU x0) by simp, any_eqU r2 fl]
      rfl
    · intro _
      exact wpAny_Name (wpAny_loadName_local kf (show cenv.scope.names.lookup xa = some .local by rw [e1]; exact S.loc) hn hma ⟨⟨hi, rfl⟩, GxR.keeps_refl _⟩) hd
  · rintro g s5 ⟨fp, wr, G, go, W, hT, st, hfp, hI, inv⟩
    apply Calls.spliced_nil
    refine call_tuple_gen W hT st hfp hI (fun s' acc mv items => ?_) ?_
    · obtain ⟨H2, tb, J⟩ := inv s' mv
      have ep : (rows.filter fun r => inV x0 r.2.2.2).map (fun r => r.2.1) = (passing (fun i => inV x0 (rows.getD i row0).2.2.2) its.toArray.size 0).map fun i => (rows.getD i row0).2.1 := by
        conv => lhs; rw [← rows_range rows]
        rw [List.filter_map, List.map_map, szT]
        rfl
      have rel : Vals ((rows.filter fun r => inV x0 r.2.2.2).map fun r => r.2.1) acc.toList := by
        rw [ep]
        refine vals_of (by rw [List.length_map]; exact items.1.symm.trans Array.length_toList.symm) ?_
        intro i u hu1
        rw [Array.getElem?_toList] at hu1
        obtain ⟨i', hp, hlt, rfl⟩ := items.2 i u hu1
        refine ⟨_, by rw [List.getElem?_map, hp]; rfl, (hu i' (szT ▸ hlt)).1⟩
      have I2 : Inv X pins σ (upd H2 s'.heap.objs.size (.tup ((rows.filter fun r => inV x0 r.2.2.2).map fun r => r.2.1))) { s' with heap := s'.heap.push { cls := .type "tuple", data := .seq acc } } := by
        refine J.laid (t' := s'.toks) (fun b o e => Heap.get?_push_of_some _ e) (Nat.le_refl _) (show ObjOk X.prog X.w _ _ _ (.tup _) from ⟨?_, acc.toList, rel, ?_⟩)
        · rw [List.length_map]
          exact Nat.le_trans (List.length_filter_le _ _) small
        · rw [Array.toArray_toList]
          exact IsTup.new _ _
      exact ⟨.ref s'.heap.objs.size, _, I2, rfl, q H2 tb _ (J.hok.fresh (Nat.le_refl _))⟩
    · unfold passing
      refine Nat.le_trans (List.length_filter_le _ _) ?_
      rw [List.drop_zero, List.length_range, szT]
      exact small
end
end Cu

namespace Cu
open PySem PySem.Spec PyProof.Rows L2
open PySem.AutoSeq1 (wpAny_loadPart')
/-! ### list.extend(tuple) -/
theorem extend_tuple (l : Addr) (items : Array Value) (n : Nat) (b : Addr) (items2 : Array Value) (n2 : Nat) (dd : Option Addr) (sl : Array (Option Value)) (hs0 : ¬(!items.isEmpty && Builtin.List.listTooLong (items.size + items2.size)) = true) (hs1 : items.size ≤ sizeLine) (hs2 : items.size + items2.size ≤ sizeLine + 1) :
    Meets (Builtin.«list.extend» ⟨[.ref l, .ref b], []⟩) (fun _ R s => s.heap.get? l = some { cls := .type "list", dict := none, data := .seq items n, slots := #[] } ∧ s.heap.get? b = some { cls := .type "tuple", dict := dd, data := .seq items2 n2, slots := sl } ∧ R (.ok (.ret Value.none)) { s with heap := s.heap.update l (Obj.mapSeq fun x => x ++ items2), toks := s.toks }) :=
  .of_wp fun prog w A R s h => by
    obtain ⟨hp, g, d, tk, os⟩ := s
    obtain ⟨hl, hb, h⟩ := h
    have t1 := PySem.AutoSeq1.sub_tuple_tuple
    have t2 := PySem.AutoSeq1.sub_tuple_list
    have fits : (items ++ items2).size ≤ sizeLine + 1 := by
      rw [Array.size_append]
      exact hs2
    wp_walk using (wpAny_updateSeq hl rfl (hz := hs1) (_hz' := fits)), wpAny_loadPart' hl, wpAny_loadPart' hb
    exact ⟨_, rfl, h⟩
section
variable {X : Cx}
def rExtT (K : PySem.W.Frag) : V → List V → Hp → VK → Prop := fun x vs H Q => ∃ l b xs zs, x = .ref l ∧ vs = [.ref b] ∧ H l = some (.lst xs) ∧ SqT K H b zs ∧ xs.length + zs.length ≤ sizeLine ∧ Q .non (upd H l (.lst (xs ++ zs)))
theorem mt_extT : MtM X "list.extend" (rExtT X.K) := by
  intro pins s σ H x vs v us Q I rx rv h
  obtain ⟨l, b, xs, zs, rfl, rfl, hH, hB, hz, q⟩ := h
  cases rx
  obtain ⟨u, rfl, ru⟩ := rv.one
  cases ru
  obtain ⟨z, its, n, r, hl, e⟩ := I.lstM hH
  obtain ⟨js, r2, ⟨⟨cls, dd, data, sl⟩, e2, hc, n2, hd⟩, _⟩ := I.tuple hB
  simp only at hc hd
  subst hc hd
  have l2 := vals_len r2
  have room : its.toArray.size + js.toArray.size ≤ sizeLine := by
    rw [List.size_toArray, List.size_toArray]
    omega
  have short : ¬ (!its.toArray.isEmpty && Builtin.List.listTooLong (its.toArray.size + js.toArray.size)) = true := by
    rw [notLongL room, Bool.and_false]
    exact Bool.false_ne_true
  refine call_meets F.slot_list_extend ⟨_, e, rfl⟩ F.entry_list_extend (F.args_list_extend_2 _ _) (extend_tuple l its.toArray n b js.toArray n2 dd sl short (by rw [List.size_toArray]; omega) (by omega)) ⟨e, e2, ?_⟩
  refine ⟨.non, _, I.lset (its' := its ++ js) hH e (by simp) (r.append r2) ?_, rfl, q⟩
  rw [List.length_append]
  omega
end
end Cu

namespace Cu
open PySem PySem.Spec PyProof.Rows L2
/-! ### what is taken, one after another: by itself, or since it meets something taken before -/
section
variable {α : Type}
def pick1 (p : α → Bool) (t : α → α → Bool) (fs : List α) (r : α) : List α := if p r || fs.any (t r) then fs ++ [r] else fs
def pick (p : α → Bool) (t : α → α → Bool) (l : List α) : List α := l.foldl (pick1 p t) []
theorem pick_snoc (p : α → Bool) (t : α → α → Bool) (l : List α) (r : α) : pick p t (l ++ [r]) = pick1 p t (pick p t l) r := by
  unfold pick
  rw [List.foldl_append]
  rfl
/-- from x to y, each step to something later that meets the one before -/
inductive Path (t : α → α → Bool) : List α → α → α → Prop
  | here (l : List α) (r : α) : Path t (l ++ [r]) r r
  | next {l : List α} {x y : α} (r : α) : Path t l x y → t r y = true → Path t (l ++ [r]) x r
  | keep {l : List α} {x y : α} (r : α) : Path t l x y → Path t (l ++ [r]) x y
theorem snoc_ind {C : List α → Prop} (h0 : C []) (h1 : ∀ l r, C l → C (l ++ [r])) (l : List α) : C l := by
  rw [← List.reverse_reverse l]
  induction l.reverse with
  | nil => exact h0
  | cons r s ih =>
    rw [List.reverse_cons]
    exact h1 _ _ ih
theorem path_nil {t : α → α → Bool} {x y : α} (h : Path t [] x y) : False := by
  generalize e : ([] : List α) = l at h
  cases h with
  | here l r => exact absurd e.symm (by simp)
  | next r _ _ => exact absurd e.symm (by simp)
  | keep r _ => exact absurd e.symm (by simp)
theorem path_snoc {t : α → α → Bool} {l : List α} {r x y : α} (h : Path t (l ++ [r]) x y) : (x = r ∧ y = r) ∨ (y = r ∧ ∃ z, Path t l x z ∧ t r z = true) ∨ Path t l x y := by
  generalize e : l ++ [r] = l2 at h
  cases h with
  | here l' r' =>
    obtain ⟨_, e2⟩ := List.append_inj' e rfl
    cases e2
    exact .inl ⟨rfl, rfl⟩
  | next r' h1 h2 =>
    obtain ⟨e1, e2⟩ := List.append_inj' e rfl
    cases e2
    subst e1
    exact .inr (.inl ⟨rfl, _, h1, h2⟩)
  | keep r' h1 =>
    obtain ⟨e1, e2⟩ := List.append_inj' e rfl
    subst e1
    exact .inr (.inr h1)
theorem path_mem {t : α → α → Bool} {l : List α} {x y : α} (h : Path t l x y) : x ∈ l ∧ y ∈ l := by
  induction h with
  | here l r => exact ⟨by simp, by simp⟩
  | next r _ _ ih => exact ⟨List.mem_append_left _ ih.1, by simp⟩
  | keep r _ ih => exact ⟨List.mem_append_left _ ih.1, List.mem_append_left _ ih.2⟩
theorem mem_pick (p : α → Bool) (t : α → α → Bool) (l : List α) : ∀ y, y ∈ pick p t l ↔ ∃ x, p x = true ∧ Path t l x y := by
  induction l using snoc_ind with
  | h0 =>
    intro y
    constructor
    · intro h
      cases h
    · rintro ⟨x, _, h⟩
      exact absurd h path_nil
  | h1 l r ih =>
    intro y
    rw [pick_snoc]
    unfold pick1
    constructor
    · intro h
      split at h
      · rename_i hb
        rcases List.mem_append.mp h with h | h
        · obtain ⟨x, px, h⟩ := (ih y).mp h
          exact ⟨x, px, .keep r h⟩
        · rw [List.mem_singleton.mp h]
          rcases (Bool.or_eq_true _ _).mp hb with hb | hb
          · exact ⟨r, hb, .here l r⟩
          · obtain ⟨z, mz, tz⟩ := List.any_eq_true.mp hb
            obtain ⟨x, px, h⟩ := (ih z).mp mz
            exact ⟨x, px, .next r h tz⟩
      · obtain ⟨x, px, h⟩ := (ih y).mp h
        exact ⟨x, px, .keep r h⟩
    · rintro ⟨x, px, h⟩
      rcases path_snoc h with ⟨rfl, rfl⟩ | ⟨rfl, z, hz, tz⟩ | h
      · rw [if_pos (by rw [px]; rfl)]
        exact List.mem_append_right _ (List.mem_singleton.mpr rfl)
      · rw [if_pos (by rw [List.any_eq_true.mpr ⟨z, (ih z).mpr ⟨x, px, hz⟩, tz⟩, Bool.or_true])]
        exact List.mem_append_right _ (List.mem_singleton.mpr rfl)
      · have m := (ih y).mpr ⟨x, px, h⟩
        split
        · exact List.mem_append_left _ m
        · exact m
theorem pick_sub (p : α → Bool) (t : α → α → Bool) (l : List α) : (pick p t l).Sublist l := by
  induction l using snoc_ind with
  | h0 => exact List.Sublist.slnil
  | h1 l r ih =>
    rw [pick_snoc]
    unfold pick1
    split
    · exact ih.append (List.Sublist.refl _)
    · exact ih.trans (List.sublist_append_left _ _)
theorem path_cons {t : α → α → Bool} {l : List α} {x y : α} (r : α) (h : Path t l x y) : Path t (r :: l) x y := by
  induction h with
  | here l r' => exact .here (r :: l) r'
  | next r' _ h2 ih => exact .next (l := r :: _) r' ih h2
  | keep r' _ ih => exact .keep (l := r :: _) r' ih
theorem path_head {t : α → α → Bool} (r : α) (l : List α) : Path t (r :: l) r r := by
  induction l using snoc_ind with
  | h0 => exact .here [] r
  | h1 l r' ih => exact .keep (l := r :: l) r' ih
theorem path_first {t : α → α → Bool} {l : List α} {y z : α} (r : α) (h : Path t l y z) (e : t y r = true) : Path t (r :: l) r z := by
  induction h with
  | here l r' => exact .next (l := r :: l) r' (path_head r l) e
  | next r' _ h2 ih => exact .next (l := r :: _) r' (ih e) h2
  | keep r' _ ih => exact .keep (l := r :: _) r' (ih e)
/-- back again -/
theorem path_rev {t : α → α → Bool} {l : List α} {x y : α} (h : Path t l x y) : Path (fun a b => t b a) l.reverse y x := by
  induction h with
  | here l r =>
    rw [List.reverse_append]
    exact path_head r _
  | next r _ h2 ih =>
    rw [List.reverse_append]
    exact path_first r ih h2
  | keep r _ ih =>
    rw [List.reverse_append]
    exact path_cons r ih
theorem path_trans {t : α → α → Bool} {l : List α} (nd : l.Nodup) : ∀ {x y z : α}, Path t l x y → Path t l y z → Path t l x z := by
  induction l using snoc_ind with
  | h0 =>
    intro x y z h
    exact absurd h path_nil
  | h1 l r ih =>
    intro x y z h1 h2
    have out : r ∉ l := fun m => by
      have := (List.nodup_append.mp nd).2.2 r m r (List.mem_singleton.mpr rfl)
      exact this rfl
    have nd' := (List.nodup_append.mp nd).1
    rcases path_snoc h2 with ⟨rfl, rfl⟩ | ⟨rfl, w, hw, tw⟩ | h3
    · exact h1
    · rcases path_snoc h1 with ⟨_, rfl⟩ | ⟨rfl, _⟩ | h1
      · exact absurd (path_mem hw).1 out
      · exact absurd (path_mem hw).1 out
      · exact .next _ (ih nd' h1 hw) tw
    · rcases path_snoc h1 with ⟨_, rfl⟩ | ⟨rfl, _⟩ | h1
      · exact absurd (path_mem h3).1 out
      · exact absurd (path_mem h3).1 out
      · exact .keep _ (ih nd' h1 h3)
/-- two sublists of a list without doubles, with the same members, are the same -/
theorem sub_ext : ∀ {l a b : List α}, l.Nodup → a.Sublist l → b.Sublist l → (∀ x, x ∈ a ↔ x ∈ b) → a = b
  | [], a, b, _, ha, hb, _ => by
    rw [List.sublist_nil.mp ha, List.sublist_nil.mp hb]
  | r :: l, a, b, nd, ha, hb, h => by
    have out := (List.nodup_cons.mp nd).1
    have nd' := (List.nodup_cons.mp nd).2
    cases ha with
    | cons _ ha =>
      cases hb with
      | cons _ hb => exact sub_ext nd' ha hb h
      | cons_cons _ hb => exact absurd (ha.subset ((h r).mpr List.mem_cons_self)) out
    | cons_cons _ ha =>
      cases hb with
      | cons _ hb => exact absurd (hb.subset ((h r).mp List.mem_cons_self)) out
      | cons_cons _ hb =>
        rename_i a' b'
        have : a' = b' := sub_ext nd' ha hb fun x => by
          constructor
          · intro m
            rcases List.mem_cons.mp ((h x).mp (List.mem_cons_of_mem _ m)) with e | e
            · rw [e] at m
              exact absurd (ha.subset m) out
            · exact e
          · intro m
            rcases List.mem_cons.mp ((h x).mpr (List.mem_cons_of_mem _ m)) with e | e
            · rw [e] at m
              exact absurd (hb.subset m) out
            · exact e
        rw [this]
/-- once more over what was taken -/
theorem pick_again (p p2 : α → Bool) (t : α → α → Bool) (l : List α) (nd : l.Nodup) (h : ∀ r ∈ l, p2 r = true ↔ r ∈ pick p t l) : pick p2 t l = pick p t l := by
  refine sub_ext nd (pick_sub _ _ _) (pick_sub _ _ _) fun y => ?_
  rw [mem_pick, mem_pick]
  constructor
  · rintro ⟨x, px, hx⟩
    obtain ⟨x', px', hx'⟩ := (mem_pick p t l x).mp ((h x (path_mem hx).1).mp px)
    exact ⟨x', px', path_trans nd hx' hx⟩
  · rintro ⟨x, px, hx⟩
    have my := (path_mem hx).2
    have xx : Path t l x x := by
      obtain ⟨a, b, e⟩ := List.append_of_mem (path_mem hx).1
      rw [e]
      clear e
      induction b using snoc_ind with
      | h0 => exact .here a x
      | h1 b r ih =>
        rw [show a ++ x :: (b ++ [r]) = (a ++ x :: b) ++ [r] by simp]
        exact .keep r ih
    exact ⟨x, (h x (path_mem hx).1).mpr ((mem_pick p t l x).mpr ⟨x, px, xx⟩), hx⟩
theorem pick_or (p q : α → Bool) (t : α → α → Bool) (l : List α) (y : α) : y ∈ pick (fun r => p r || q r) t l ↔ y ∈ pick p t l ∨ y ∈ pick q t l := by
  rw [mem_pick, mem_pick, mem_pick]
  constructor
  · rintro ⟨x, px, h⟩
    rcases (Bool.or_eq_true _ _).mp px with px | px
    · exact .inl ⟨x, px, h⟩
    · exact .inr ⟨x, px, h⟩
  · rintro (⟨x, px, h⟩ | ⟨x, px, h⟩)
    · exact ⟨x, by rw [px]; rfl, h⟩
    · exact ⟨x, by rw [px, Bool.or_true], h⟩
end
end Cu

namespace Cu
open PySem PySem.Spec PyProof.Rows L2
theorem same_both {F H : Hp} {p : Addr} {o : HO} (s : Same F H) (n : H p = none) : Same (upd F p o) (upd H p o) := fun b x e => by
  by_cases z : b = p
  · subst z
    rw [upd_same] at e ⊢
    exact e
  · rw [upd_ne z] at e ⊢
    exact s b x e
/-! ### what is made beside the hand a: F grows by new objects alone -/
structure Mk (a : Addr) (F H F' H' : Hp) : Prop where
  upto : Upto a H H'
  live : ∃ o, H' a = some o
  sub : Same F' H'
  mono : Same F F'
  fresh : ∀ b o, H b = some o → F b = none → F' b = none
theorem Mk.trans {a : Addr} {F H F1 H1 F2 H2 : Hp} (x : Mk a F H F1 H1) (y : Mk a F1 H1 F2 H2) : Mk a F H F2 H2 := by
  refine ⟨x.upto.trans y.upto, y.live, y.sub, x.mono.trans y.mono, fun b o e n => ?_⟩
  have n1 := x.fresh b o e n
  by_cases z : b = a
  · obtain ⟨o1, e1⟩ := x.live
    exact y.fresh b o1 (z ▸ e1) n1
  · exact y.fresh b o (x.upto b o z e) n1
theorem Mk.draw {a : Addr} {F H H' : Hp} (s : Same F H) (u : Upto a H H') (l : ∃ o, H' a = some o) (fa : F a = none) : Mk a F H F H' :=
  ⟨u, l, same_upto s u fa, Same.refl _, fun _ _ _ n => n⟩
theorem Mk.refl {a : Addr} {F H : Hp} (s : Same F H) (l : ∃ o, H a = some o) : Mk a F H F H := ⟨.refl _ _, l, s, Same.refl _, fun _ _ _ n => n⟩
theorem Mk.new {a p : Addr} {F H : Hp} (o : HO) (s : Same F H) (l : ∃ o, H a = some o) (n : H p = none) : Mk a F H (upd F p o) (upd H p o) := by
  obtain ⟨oa, ea⟩ := l
  refine ⟨.new n, ⟨oa, (upd_ne (ne_of_none ea n)).trans ea⟩, same_both s n, same_upd (s.free n), fun b ob e nb => ?_⟩
  rw [upd_ne (ne_of_none e n)]
  exact nb
theorem Mk.skip {a p : Addr} {F H : Hp} (o : HO) (s : Same F H) (l : ∃ o, H a = some o) (n : H p = none) : Mk a F H F (upd H p o) := by
  obtain ⟨oa, ea⟩ := l
  exact ⟨.new n, ⟨oa, (upd_ne (ne_of_none ea n)).trans ea⟩, s.trans (same_upd n), Same.refl _, fun b ob e nb => nb⟩
theorem Mk.fa {a : Addr} {F H F' H' : Hp} (m : Mk a F H F' H') (l : ∃ o, H a = some o) (fa : F a = none) : F' a = none := by
  obtain ⟨o, e⟩ := l
  exact m.fresh a o e fa
end Cu

namespace Cu
open PySem PySem.Spec PyProof.Rows L2
theorem stays_of {F H : Hp} (s : Same F H) : Stays F H := fun b o e _ => s b o e
/-! ### the tables may have grown, all else that stood stands -/
structure Tbs (ps : List Addr) (H H' : Hp) : Prop where
  keep : ∀ b o, b ∉ ps → H b = some o → H' b = some o
  tab : ∀ p ∈ ps, GxR.TabG H' p
theorem Tbs.refl {ps : List Addr} {H : Hp} (h : ∀ p ∈ ps, GxR.TabG H p) : Tbs ps H H := ⟨fun _ _ _ e => e, h⟩
theorem Tbs.trans {ps : List Addr} {H H1 H2 : Hp} (a : Tbs ps H H1) (b : Tbs ps H1 H2) : Tbs ps H H2 := ⟨fun x o n e => b.keep x o n (a.keep x o n e), b.tab⟩
theorem Tbs.new {ps : List Addr} {H H1 : Hp} {l : Addr} {o : HO} (a : Tbs ps H H1) (n : H1 l = none) : Tbs ps H (upd H1 l o) := by
  refine ⟨fun b x nb e => same_upd n _ _ (a.keep b x nb e), fun p hp => ?_⟩
  obtain ⟨qs, e, t⟩ := a.tab p hp
  exact ⟨qs, same_upd n _ _ e, t⟩
theorem Tbs.one {ps : List Addr} {H H' : Hp} {p : Addr} (h : ∀ q ∈ ps, GxR.TabG H q) (hp : p ∈ ps) (t : GxR.Tabbed p H H') : Tbs ps H H' := by
  refine ⟨fun b o nb e => ?_, fun q hq => ?_⟩
  · rw [t.2 b (fun z => nb (z ▸ hp))]
    exact e
  · by_cases z : q = p
    · rw [z]
      exact t.1
    · obtain ⟨qs, e, tt⟩ := h q hq
      exact ⟨qs, (t.2 q z).trans e, tt⟩
theorem Tbs.stays {ps : List Addr} {H H' : Hp} (t : Tbs ps H H') (h : ∀ q ∈ ps, GxR.TabG H q) : Stays H H' := by
  intro b o e k
  refine t.keep b o (fun z => ?_) e
  obtain ⟨qs, e1, _⟩ := h b z
  rw [e1] at e
  cases e
  rcases k with ⟨_, z⟩ | ⟨_, z⟩ | ⟨_, z⟩ <;> cases z
theorem tb_at {H H' : Hp} {p : Addr} (e : H' p = H p) (t : GxR.TabG H p) : GxR.TabG H' p := by
  obtain ⟨qs, e1, tt⟩ := t
  exact ⟨qs, e.trans e1, tt⟩
theorem tb_same {H H' : Hp} {p : Addr} (s : Same H H') (t : GxR.TabG H p) : GxR.TabG H' p := by
  obtain ⟨qs, e1, tt⟩ := t
  exact ⟨qs, s _ _ e1, tt⟩
theorem tb_upto {a : Addr} {H H' : Hp} {p : Addr} (u : Upto a H H') (n : p ≠ a) (t : GxR.TabG H p) : GxR.TabG H' p := by
  obtain ⟨qs, e1, tt⟩ := t
  exact ⟨qs, u _ _ n e1, tt⟩
theorem tb_ne {H : Hp} {p l : Addr} {o : HO} (t : GxR.TabG H p) (e : H l = some o) (h : ∀ qs, o ≠ .tbl qs) : p ≠ l := fun z => by
  obtain ⟨qs, e1, _⟩ := t
  rw [z, e] at e1
  exact h qs (Option.some.inj e1)
theorem tb_free {H : Hp} {p l : Addr} (t : GxR.TabG H p) (n : H l = none) : p ≠ l := fun z => by
  obtain ⟨qs, e1, _⟩ := t
  rw [z, n] at e1
  cases e1
/-! ### data whose texts and rows are not too long -/
mutual
def small : PyData → Bool
  | .str z => decide (z.length ≤ sizeLine)
  | .list xs | .tuple xs => decide (xs.length ≤ 1000) && smallAll xs
  | .dict kvs => smallKv kvs
  | .none | .bool _ | .int _ => true
def smallAll : List PyData → Bool
  | [] => true
  | x :: xs => small x && smallAll xs
def smallKv : List (PyData × PyData) → Bool
  | [] => true
  | (_, v) :: r => small v && smallKv r
end
theorem smallAll_mem : ∀ {ds : List PyData}, (∀ d ∈ ds, small d = true) → smallAll ds = true
  | [], _ => by simp [smallAll]
  | d :: r, h => by
    simp only [smallAll, h d List.mem_cons_self, smallAll_mem fun e m => h e (List.mem_cons_of_mem _ m), Bool.and_self]
theorem small_of_all : ∀ {ds : List PyData}, smallAll ds = true → ∀ d ∈ ds, small d = true
  | [], _, d, m => nomatch m
  | e :: r, h, d, m => by
    simp only [smallAll, Bool.and_eq_true] at h
    rcases List.mem_cons.mp m with z | z
    · rw [z]
      exact h.1
    · exact small_of_all h.2 d z
theorem small_tup {ds : List PyData} (h : small (.tuple ds) = true) : ds.length ≤ 1000 ∧ ∀ d ∈ ds, small d = true := by
  simp only [small, Bool.and_eq_true] at h
  exact ⟨of_decide_eq_true h.1, small_of_all h.2⟩
theorem dx_mem {H : Hp} : ∀ {xs : List V} {ds : List PyData} {y : V}, DxAll H xs ds → y ∈ xs → ∃ d, d ∈ ds ∧ Dx H y d
  | _, _, _, .nil, m => nomatch m
  | _, _, _, .cons k t, m => by
    rcases List.mem_cons.mp m with e | e
    · rw [e]
      exact ⟨_, List.mem_cons_self, k⟩
    · obtain ⟨d, md, k2⟩ := dx_mem t e
      exact ⟨d, List.mem_cons_of_mem _ md, k2⟩
mutual
theorem Dx.one {H : Hp} : ∀ (d e : PyData) (v : V), Dx H v d → Dx H v e → d = e
  | .none, _, _, h, k => by
    cases h
    cases k
    rfl
  | .bool b, _, _, h, k => by
    cases h
    cases k
    rfl
  | .int i, _, _, h, k => by
    cases h
    cases k
    rfl
  | .str x, _, _, h, k => by
    cases h
    cases k
    rfl
  | .list ds, _, _, h, k => by
    cases h with
    | lst e1 k1 =>
      cases k with
      | lst e2 k2 =>
        cases e1.symm.trans e2
        rw [DxAll.one ds _ _ k1 k2]
      | tup e2 k2 => cases e1.symm.trans e2
      | dct e2 k2 => cases e1.symm.trans e2
  | .tuple ds, _, _, h, k => by
    cases h with
    | tup e1 k1 =>
      cases k with
      | tup e2 k2 =>
        cases e1.symm.trans e2
        rw [DxAll.one ds _ _ k1 k2]
      | lst e2 k2 => cases e1.symm.trans e2
      | dct e2 k2 => cases e1.symm.trans e2
  | .dict ds, _, _, h, k => by
    cases h with
    | dct e1 k1 =>
      cases k with
      | dct e2 k2 =>
        cases e1.symm.trans e2
        rw [DxKv.one ds _ _ k1 k2]
      | lst e2 k2 => cases e1.symm.trans e2
      | tup e2 k2 => cases e1.symm.trans e2
theorem DxAll.one {H : Hp} : ∀ (ds es : List PyData) (vs : List V), DxAll H vs ds → DxAll H vs es → ds = es
  | [], _, _, h, k => by
    cases h
    cases k
    rfl
  | d :: ds, _, _, h, k => by
    cases h with
    | cons h1 h2 =>
      cases k with
      | cons k1 k2 => rw [Dx.one d _ _ h1 k1, DxAll.one ds _ _ h2 k2]
theorem DxKv.one {H : Hp} : ∀ (ds es : List (PyData × PyData)) (vs : List (Key × V)), DxKv H vs ds → DxKv H vs es → ds = es
  | [], _, _, h, k => by
    cases h
    cases k
    rfl
  | (_, d) :: ds, _, _, h, k => by
    cases h with
    | cons h1 h2 =>
      cases k with
      | cons k1 k2 => rw [Dx.one d _ _ h1 k1, DxKv.one ds _ _ h2 k2]
end
/-- a value that repr can show, of bounded size -/
def Wl (n k : Nat) (F : Hp) (x : V) : Prop := ∃ d, Dx F x d ∧ Gx n k d ∧ small d = true
theorem Wl.more {n k : Nat} {F F' : Hp} {x : V} (s : Same F F') (h : Wl n k F x) : Wl n k F' x := by
  obtain ⟨d, h1, h2⟩ := h
  exact ⟨d, Dx.stays (stays_of s) d x h1, h2⟩
theorem Wl.mono {n k n' k' : Nat} {F : Hp} {x : V} (h : Wl n k F x) (hn : n ≤ n' := by decide) (hk : k ≤ k' := by decide) : Wl n' k' F x := by
  obtain ⟨d, h1, h2, h3⟩ := h
  exact ⟨d, h1, h2.mono hn hk, h3⟩
theorem wl_lit {n k : Nat} {F : Hp} {x : V} {d : PyData} (h : Dx F x d) (g : d.shown.length ≤ n ∧ d.depth ≤ k ∧ d.showable = true ∧ small d = true) : Wl n k F x := ⟨d, h, ⟨g.1, g.2.1, g.2.2.1⟩, g.2.2.2⟩
theorem wl_str {F : Hp} {z : Str} {n k m : Nat} (a : Asc z) (l : z.length ≤ m) (hm : 10 * m + 2 ≤ n) (h2 : m ≤ 1000000 := by decide) : Wl n k F (.str z) := by
  refine ⟨.str z, .str z, (good_str (n := n) (k := k) a (by omega)).gx, ?_⟩
  show decide (z.length ≤ sizeLine) = true
  exact decide_eq_true (Nat.le_trans (Nat.le_trans l h2) (by decide))
theorem wl_non {F : Hp} {n k : Nat} (h : 5 ≤ n := by decide) : Wl n k F .non := ⟨.none, .non, (good_none (n := n) (k := k) (by omega)).gx, rfl⟩
theorem wl_bl {F : Hp} {n k : Nat} (b : Bool) (h : 5 ≤ n := by decide) : Wl n k F (.bl b) := ⟨.bool b, .bl b, (good_bool b (n := n) (k := k) (by omega)).gx, rfl⟩
theorem wls_all {n k : Nat} {F : Hp} : ∀ (xs : List V), (∀ x ∈ xs, Wl n k F x) → ∃ ds, DxAll F xs ds ∧ (∀ d ∈ ds, Gx n k d) ∧ (∀ d ∈ ds, small d = true) ∧ ds.length = xs.length
  | [], _ => ⟨[], .nil, fun d m => (nomatch m), fun d m => (nomatch m), rfl⟩
  | x :: r, h => by
    obtain ⟨ds, h1, h2, h3, h4⟩ := wls_all r fun y m => h y (List.mem_cons_of_mem _ m)
    obtain ⟨d, k1, k2, k3⟩ := h x List.mem_cons_self
    refine ⟨d :: ds, .cons k1 h1, fun y m => ?_, fun y m => ?_, by rw [List.length_cons, List.length_cons, h4]⟩
    · rcases List.mem_cons.mp m with rfl | m
      · exact k2
      · exact h2 y m
    · rcases List.mem_cons.mp m with rfl | m
      · exact k3
      · exact h3 y m
theorem wl_tup {n k m : Nat} {F : Hp} {p : Addr} {xs : List V} (e : F p = some (.tup xs)) (h : ∀ x ∈ xs, Wl n k F x) (l : Nat) (hl : xs.length ≤ l) (hm : (n + 2) * l + 2 ≤ m) (l2 : l ≤ 1000 := by decide) : Wl m (k + 1) F (.ref p) := by
  obtain ⟨ds, h1, h2, h3, h4⟩ := wls_all xs h
  have : (n + 2) * ds.length ≤ (n + 2) * l := Nat.mul_le_mul_left _ (by omega)
  refine ⟨.tuple ds, .tup e h1, gx_tup h2 (by omega), ?_⟩
  simp only [small, smallAll_mem h3, Bool.and_true]
  exact decide_eq_true (by omega)
theorem wl_lst {n k m : Nat} {F : Hp} {p : Addr} {xs : List V} (e : F p = some (.lst xs)) (h : ∀ x ∈ xs, Wl n k F x) (l : Nat) (hl : xs.length ≤ l) (hm : (n + 2) * l + 2 ≤ m) (l2 : l ≤ 1000 := by decide) : Wl m (k + 1) F (.ref p) := by
  obtain ⟨ds, h1, h2, h3, h4⟩ := wls_all xs h
  have : (n + 2) * ds.length ≤ (n + 2) * l := Nat.mul_le_mul_left _ (by omega)
  refine ⟨.list ds, .lst e h1, gx_list h2 (by omega), ?_⟩
  simp only [small, smallAll_mem h3, Bool.and_true]
  exact decide_eq_true (by omega)
theorem wl_int {F : Hp} {i : Int} {n k : Nat} (h : i.natAbs < 2 ^ 200) (hn : 2000 ≤ n := by decide) : Wl n k F (.int i) := by
  refine ⟨.int i, .int i, (good_int (n := n) (k := k) ?_ (by omega)).gx, rfl⟩
  by_cases h0 : i.natAbs = 0
  · rw [h0]
    decide
  · exact Nat.lt_of_lt_of_le ((Nat.log2_lt h0).mpr h) (by decide)
end Cu

namespace Cu
open PySem PySem.Spec PyProof.Rows L2
/-! ### the items of a law, so far: F holds what they are made of -/
abbrev Itw (F : Hp) (x : V) : Prop := Wl 15000000 50 F x
structure Itl (ps : List Addr) (it : Addr) (xs : List V) (F H : Hp) : Prop where
  sub : Same F H
  np : ∀ p ∈ ps, F p = none
  n3 : F it = none
  at_ : H it = some (.lst xs)
  ok : ∀ x ∈ xs, Itw F x
  tb : ∀ p ∈ ps, GxR.TabG H p
theorem Itl.mk_ {ps : List Addr} {it a : Addr} {xs : List V} {F H F' H' : Hp} (h : Itl ps it xs F H) (m : Mk a F H F' H') (na : it ≠ a) (np : ∀ p ∈ ps, p ≠ a) : Itl ps it xs F' H' := by
  refine ⟨m.sub, fun p hp => ?_, m.fresh _ _ h.at_ h.n3, m.upto _ _ na h.at_, fun x y => (h.ok x y).more m.mono, fun p hp => tb_upto m.upto (np p hp) (h.tb p hp)⟩
  obtain ⟨qs, e, _⟩ := h.tb p hp
  exact m.fresh _ _ e (h.np p hp)
theorem Itl.same {ps : List Addr} {it : Addr} {xs : List V} {F H H' : Hp} (h : Itl ps it xs F H) (s : Same H H') : Itl ps it xs F H' :=
  ⟨h.sub.trans s, h.np, h.n3, s _ _ h.at_, h.ok, fun p hp => tb_same s (h.tb p hp)⟩
theorem Itl.put {ps : List Addr} {it D : Addr} {xs : List V} {F H : Hp} {o : HO} (h : Itl ps it xs F H) (fD : F D = none) (a1 : it ≠ D) (a2 : ∀ p ∈ ps, p ≠ D) : Itl ps it xs F (upd H D o) :=
  ⟨same_put h.sub fD, h.np, h.n3, (upd_ne a1).trans h.at_, h.ok, fun p hp => tb_at (upd_ne (a2 p hp)) (h.tb p hp)⟩
theorem Itl.ne {ps : List Addr} {it : Addr} {xs : List V} {F H : Hp} (h : Itl ps it xs F H) : ∀ p ∈ ps, p ≠ it := fun p hp => tb_ne (h.tb p hp) h.at_ (fun qs z => (nomatch z))
theorem Itl.grow {ps : List Addr} {it : Addr} {xs ys : List V} {F H : Hp} (h : Itl ps it xs F H) (ok : ∀ y ∈ ys, Itw F y) : Itl ps it (xs ++ ys) F (upd H it (.lst (xs ++ ys))) := by
  refine ⟨same_put h.sub h.n3, h.np, h.n3, upd_same, fun x m => ?_, fun p hp => tb_at (upd_ne (h.ne p hp)) (h.tb p hp)⟩
  rcases List.mem_append.mp m with m | m
  · exact h.ok x m
  · exact ok x m
theorem Itl.tabs {ps : List Addr} {it : Addr} {xs : List V} {F H H' : Hp} (h : Itl ps it xs F H) (t : Tbs ps H H') : Itl ps it xs F H' := by
  refine ⟨fun b o e => t.keep b o (fun z => ?_) (h.sub b o e), h.np, h.n3, t.keep _ _ (fun z => h.ne it z rfl) h.at_, h.ok, t.tab⟩
  rw [h.np b z] at e
  cases e
/-! ### literals, with their data -/
structure Lit (F0 H0 : Hp) (ps : List Addr) (kn : List (V × PyData)) (F H : Hp) : Prop where
  bs : Same H0 H
  mo : Same F0 F
  sub : Same F H
  np : ∀ p ∈ ps, F p = none
  ok : ∀ q ∈ kn, Dx F q.1 q.2
  tb : ∀ p ∈ ps, GxR.TabG H p
inductive Oks (kn : List (V × PyData)) : List (V × PyData) → Prop
  | nil : Oks kn []
  | s (z : Str) {ys : List (V × PyData)} (t : Oks kn ys) : Oks kn ((.str z, .str z) :: ys)
  | i (z : Int) {ys : List (V × PyData)} (t : Oks kn ys) : Oks kn ((.int z, .int z) :: ys)
  | b (z : Bool) {ys : List (V × PyData)} (t : Oks kn ys) : Oks kn ((.bl z, .bool z) :: ys)
  | n {ys : List (V × PyData)} (t : Oks kn ys) : Oks kn ((.non, .none) :: ys)
  | k (j : Nat) {q : V × PyData} {ys : List (V × PyData)} (h : kn[j]? = some q) (t : Oks kn ys) : Oks kn (q :: ys)
theorem Oks.mem {kn : List (V × PyData)} {F : Hp} (ok : ∀ q ∈ kn, Dx F q.1 q.2) : ∀ {ys : List (V × PyData)}, Oks kn ys → ∀ q ∈ ys, Dx F q.1 q.2
  | _, .nil, q, m => nomatch m
  | _, .s z t, q, m => by
    rcases List.mem_cons.mp m with rfl | m
    · exact .str z
    · exact Oks.mem ok t q m
  | _, .i z t, q, m => by
    rcases List.mem_cons.mp m with rfl | m
    · exact .int z
    · exact Oks.mem ok t q m
  | _, .b z t, q, m => by
    rcases List.mem_cons.mp m with rfl | m
    · exact .bl z
    · exact Oks.mem ok t q m
  | _, .n t, q, m => by
    rcases List.mem_cons.mp m with rfl | m
    · exact .non
    · exact Oks.mem ok t q m
  | _, .k j h t, q, m => by
    rcases List.mem_cons.mp m with rfl | m
    · exact ok _ (List.mem_of_getElem? h)
    · exact Oks.mem ok t q m
theorem dxAll_mem {F : Hp} : ∀ {ys : List (V × PyData)}, (∀ q ∈ ys, Dx F q.1 q.2) → DxAll F (ys.map Prod.fst) (ys.map Prod.snd)
  | [], _ => .nil
  | q :: ys, h => .cons (h q List.mem_cons_self) (dxAll_mem fun p m => h p (List.mem_cons_of_mem _ m))
theorem Lit.new {F0 H0 : Hp} {ps : List Addr} {kn : List (V × PyData)} {F H : Hp} {p : Addr} (c : Lit F0 H0 ps kn F H) (o : HO) (d : PyData) (n : H p = none) (h : (∀ q ∈ kn, Dx (upd F p o) q.1 q.2) → Dx (upd F p o) (.ref p) d) : Lit F0 H0 ps ((.ref p, d) :: kn) (upd F p o) (upd H p o) := by
  have fp := c.sub.free n
  have kp : ∀ q ∈ kn, Dx (upd F p o) q.1 q.2 := fun q m => Dx.stays (stays_of (same_upd fp)) _ _ (c.ok q m)
  refine ⟨c.bs.trans (same_upd n), c.mo.trans (same_upd fp), same_both c.sub n, fun r hr => ?_, fun q m => ?_, fun r hr => tb_same (same_upd n) (c.tb r hr)⟩
  · rw [upd_ne (tb_free (c.tb r hr) n)]
    exact c.np r hr
  · rcases List.mem_cons.mp m with rfl | m
    · exact h kp
    · exact kp q m
theorem Lit.tup {F0 H0 : Hp} {ps : List Addr} {kn : List (V × PyData)} {F H : Hp} {p : Addr} (c : Lit F0 H0 ps kn F H) (n : H p = none) {ys : List (V × PyData)} (h : Oks kn ys) : Lit F0 H0 ps ((.ref p, .tuple (ys.map Prod.snd)) :: kn) (upd F p (.tup (ys.map Prod.fst))) (upd H p (.tup (ys.map Prod.fst))) :=
  c.new _ _ n fun k => .tup upd_same (dxAll_mem (h.mem k))
theorem Lit.lst {F0 H0 : Hp} {ps : List Addr} {kn : List (V × PyData)} {F H : Hp} {p : Addr} (c : Lit F0 H0 ps kn F H) (n : H p = none) {ys : List (V × PyData)} (h : Oks kn ys) : Lit F0 H0 ps ((.ref p, .list (ys.map Prod.snd)) :: kn) (upd F p (.lst (ys.map Prod.fst))) (upd H p (.lst (ys.map Prod.fst))) :=
  c.new _ _ n fun k => .lst upd_same (dxAll_mem (h.mem k))
theorem Lit.dct {F0 H0 : Hp} {ps : List Addr} {kn : List (V × PyData)} {F H : Hp} {p : Addr} (c : Lit F0 H0 ps kn F H) (n : H p = none) : Lit F0 H0 ps ((.ref p, .dict []) :: kn) (upd F p (.dK [])) (upd H p (.dK [])) :=
  c.new _ _ n fun _ => .dct upd_same .nil
theorem lit0 {H : Hp} {ps : List Addr} (tb : ∀ p ∈ ps, GxR.TabG H p) : Lit (fun _ => none) H ps [] (fun _ => none) H := ⟨Same.refl _, Same.refl _, fun b o e => (nomatch e), fun _ _ => rfl, fun q m => (nomatch m), tb⟩
def goodD (n k : Nat) (d : PyData) : Bool := decide (d.shown.length ≤ n) && (decide (d.depth ≤ k) && (d.showable && small d))
theorem wl_good {n k : Nat} {F : Hp} {x : V} {d : PyData} (h : Dx F x d) (g : goodD n k d = true) : Wl n k F x := by
  unfold goodD at g
  rw [Bool.and_eq_true, Bool.and_eq_true, Bool.and_eq_true] at g
  exact ⟨d, h, ⟨of_decide_eq_true g.1, of_decide_eq_true g.2.1, g.2.2.1⟩, g.2.2.2⟩
theorem good_mem {n k : Nat} : ∀ {zs : List (V × PyData)} {ds : List PyData}, zs.map Prod.snd = ds → ds.all (goodD n k) = true → ∀ q ∈ zs, goodD n k q.2 = true := by
  rintro zs ds rfl h q m
  exact List.all_eq_true.mp h _ (List.mem_map_of_mem m)
theorem Lit.wls {F0 H0 : Hp} {ps : List Addr} {kn : List (V × PyData)} {F H : Hp} (c : Lit F0 H0 ps kn F H) {n k : Nat} {zs : List (V × PyData)} (h : Oks kn zs) {ds : List PyData} (e : zs.map Prod.snd = ds) (g : ds.all (goodD n k) = true) : ∀ x ∈ zs.map Prod.fst, Wl n k F x := by
  intro x m
  obtain ⟨q, mq, rfl⟩ := List.mem_map.mp m
  exact wl_good (h.mem c.ok q mq) (good_mem e g q mq)
theorem Lit.fin {F0 H0 : Hp} {ps : List Addr} {kn : List (V × PyData)} {F H : Hp} {l : Addr} (c : Lit F0 H0 ps kn F H) (n : H l = none) {zs : List (V × PyData)} (h : Oks kn zs) {ds : List PyData} (e : zs.map Prod.snd = ds) (g : ds.all (goodD 15000000 50) = true) : Itl ps l (zs.map Prod.fst) F (upd H l (.lst (zs.map Prod.fst))) :=
  ⟨c.sub.trans (same_upd n), c.np, c.sub.free n, upd_same, c.wls h e g, fun p hp => tb_same (same_upd n) (c.tb p hp)⟩
/-! ### made beside the hand, the hand as it was -/
structure Mq (a : Addr) (F H F' H' : Hp) : Prop where
  md : Mk a F H F' H'
  same : Same H H'
theorem Mq.trans {a : Addr} {F H F1 H1 F2 H2 : Hp} (x : Mq a F H F1 H1) (y : Mq a F1 H1 F2 H2) : Mq a F H F2 H2 := ⟨x.md.trans y.md, x.same.trans y.same⟩
theorem Mq.new {a p : Addr} {F H : Hp} (o : HO) (s : Same F H) (l : ∃ o, H a = some o) (n : H p = none) : Mq a F H (upd F p o) (upd H p o) := ⟨.new o s l n, same_upd n⟩
theorem Mq.refl {a : Addr} {F H : Hp} (s : Same F H) (l : ∃ o, H a = some o) : Mq a F H F H := ⟨.refl s l, Same.refl _⟩
/-- values made so far, each of at most the size n, k -/
structure Kn (n k : Nat) (a : Addr) (F0 H0 : Hp) (xs : List V) (F H : Hp) : Prop where
  mq : Mq a F0 H0 F H
  ok : ∀ x ∈ xs, Wl n k F x
theorem Kn.zero {n k : Nat} {a : Addr} {F H : Hp} (s : Same F H) (l : ∃ o, H a = some o) : Kn n k a F H [] F H := ⟨.refl s l, fun x m => (nomatch m)⟩
theorem Kn.add {n k : Nat} {a : Addr} {F0 H0 F H : Hp} {xs : List V} (c : Kn n k a F0 H0 xs F H) {x : V} (h : Wl n k F x) : Kn n k a F0 H0 (x :: xs) F H := ⟨c.mq, fun y m => by
  rcases List.mem_cons.mp m with rfl | m
  · exact h
  · exact c.ok y m⟩
theorem Kn.go {n k : Nat} {a : Addr} {F0 H0 F H F' H' : Hp} {xs : List V} (c : Kn n k a F0 H0 xs F H) (m : Mq a F H F' H') : Kn n k a F0 H0 xs F' H' := ⟨c.mq.trans m, fun y my => (c.ok y my).more m.md.mono⟩
theorem Kn.new {n k : Nat} {a p : Addr} {F0 H0 F H : Hp} {xs : List V} (c : Kn n k a F0 H0 xs F H) (o : HO) (np : H p = none) (h : ∀ G, Same F G → G p = some o → Wl n k G (.ref p)) : Kn n k a F0 H0 (.ref p :: xs) (upd F p o) (upd H p o) :=
  (c.go (.new o c.mq.md.sub c.mq.md.live np)).add (h _ (same_upd (c.mq.md.sub.free np)) upd_same)
theorem Kn.at_ {n k : Nat} {a : Addr} {F0 H0 F H : Hp} {xs : List V} (c : Kn n k a F0 H0 xs F H) {x : V} (j : Nat) (h : xs[j]? = some x) : Wl n k F x := c.ok x (List.mem_of_getElem? h)
end Cu

namespace Cu
open PySem PySem.Spec PyProof.Rows L2
/-! ### dicts by pairs; data that can be compared -/
theorem putK_mem {P : Key → Prop} {Q : V → Prop} {acc : List (Key × V)} {k : Key} {v : V} (h : ∀ kv ∈ acc, P kv.1 ∧ Q kv.2) (hk : P k) (hv : Q v) : ∀ kv ∈ putK acc k v, P kv.1 ∧ Q kv.2 := by
  intro kv m
  unfold putK at m
  split at m
  · obtain ⟨x, mx, rfl⟩ := List.mem_map.mp m
    by_cases z : x.1 = k
    · rw [if_pos z]
      exact ⟨(h x mx).1, hv⟩
    · rw [if_neg z]
      exact h x mx
  · rcases List.mem_append.mp m with m | m
    · exact h kv m
    · rw [List.mem_singleton.mp m]
      exact ⟨hk, hv⟩
theorem mergeK_mem {P : Key → Prop} {Q : V → Prop} : ∀ {more acc : List (Key × V)}, (∀ kv ∈ acc, P kv.1 ∧ Q kv.2) → (∀ kv ∈ more, P kv.1 ∧ Q kv.2) → ∀ kv ∈ mergeK acc more, P kv.1 ∧ Q kv.2
  | [], _, h, _ => h
  | x :: r, acc, h, g => mergeK_mem (more := r) (acc := putK acc x.1 x.2) (putK_mem h (g x List.mem_cons_self).1 (g x List.mem_cons_self).2) fun kv m => g kv (List.mem_cons_of_mem _ m)
def NameK (k : Key) : Prop := ∃ z, k = .inr z ∧ Asc z ∧ z.length ≤ 8
theorem dct_all {n k : Nat} {F : Hp} : ∀ (kvs : List (Key × V)), (∀ kv ∈ kvs, NameK kv.1 ∧ Wl n k F kv.2) →
    ∃ ds, DxKv F kvs ds ∧ ((PyData.shownKv ds).map (·.length)).sum ≤ (n + 90) * kvs.length ∧ PyData.depthKv ds ≤ k ∧ PyData.showableKv ds = true ∧ smallKv ds = true ∧ ds.length = kvs.length
  | [], _ => ⟨[], .nil, by simp [PyData.shownKv], by simp [PyData.depthKv], by simp [PyData.showableKv], by simp [smallKv], rfl⟩
  | (key, v) :: r, h => by
    obtain ⟨ds, h1, h2, h3, h4, h5, h6⟩ := dct_all r fun y m => h y (List.mem_cons_of_mem _ m)
    obtain ⟨⟨z, ez, az, lz⟩, d, dx, g, sm⟩ := h _ List.mem_cons_self
    have ez' : key = .inr z := ez
    subst ez'
    have gz := good_str (n := 82) (k := 0) az (by omega)
    have lz2 := gz.len
    have ld := g.len
    have lt : ((PyData.str z).shown ++ ": " ++ d.shown).length = (PyData.str z).shown.length + 2 + d.shown.length := by
      rw [strLen_append, strLen_append]
      rfl
    refine ⟨(.str z, d) :: ds, .cons (k := .inr z) dx h1, ?_, ?_, ?_, ?_, by rw [List.length_cons, List.length_cons, h6]⟩
    · simp only [PyData.shownKv, List.map_cons, List.sum_cons, List.length_cons, Nat.mul_succ]
      rw [lt]
      omega
    · have := g.dep
      have e0 : (PyData.str z).depth = 0 := by simp [PyData.depth]
      simp only [PyData.depthKv, e0]
      omega
    · have e0 : (PyData.str z).showable = true := by simp [PyData.showable]
      simp only [PyData.showableKv, e0, g.show_, h4, Bool.and_self]
    · simp only [smallKv, sm, h5, Bool.and_self]
theorem wl_dct {n k m : Nat} {F : Hp} {p : Addr} {kvs : List (Key × V)} (e : F p = some (.dK kvs)) (h : ∀ kv ∈ kvs, NameK kv.1 ∧ Wl n k F kv.2) (l : Nat) (hl : kvs.length ≤ l) (hm : (n + 92) * l + 3 ≤ m) : Wl m (k + 1) F (.ref p) := by
  obtain ⟨ds, h1, h2, h3, h4, h5, h6⟩ := dct_all kvs h
  have t := dictText_len_le (PyData.shownKv ds)
  rw [PyData.shownKv_length, h6] at t
  have : (n + 90) * kvs.length + 2 * kvs.length ≤ (n + 92) * l := by
    rw [← Nat.add_mul]
    exact Nat.mul_le_mul_left _ hl
  refine ⟨.dict ds, .dct e h1, ⟨?_, ?_, ?_⟩, ?_⟩
  · simp only [PyData.shown]
    omega
  · simp only [PyData.depth]
    omega
  · simp only [PyData.showable]
    exact h4
  · simp only [small]
    exact h5
mutual
theorem dp_dx {K : PySem.W.Frag} {H : Hp} : ∀ (d : PyData) (v : V), Dx H v d → d.canLay0 = true → Dp K H v d
  | .none, _, h, _ => by
    cases h
    exact .non
  | .bool b, _, h, _ => by
    cases h
    exact .bl b
  | .int i, _, h, _ => by
    cases h
    exact .int i
  | .str x, _, h, _ => by
    cases h
    exact .str x
  | .list ds, _, h, c => by
    cases h with
    | lst e k => exact .lst (SqL.of e) (dpAll_dx ds _ k (by simpa [PyData.canLay0] using c))
  | .tuple ds, _, h, c => by
    cases h with
    | tup e k => exact .tup (SqT.of e) (dpAll_dx ds _ k (by simpa [PyData.canLay0] using c))
  | .dict _, _, _, c => by simp [PyData.canLay0] at c
theorem dpAll_dx {K : PySem.W.Frag} {H : Hp} : ∀ (ds : List PyData) (vs : List V), DxAll H vs ds → PyData.canLayAll0 ds = true → DpAll K H vs ds
  | [], _, h, _ => by
    cases h
    exact .nil
  | d :: ds, _, h, c => by
    have c' : d.canLay0 = true ∧ PyData.canLayAll0 ds = true := by simpa [PyData.canLayAll0] using c
    cases h with
    | cons h t => exact .cons (dp_dx d _ h c'.1) (dpAll_dx ds _ t c'.2)
end
/-- a value that can be compared, of depth at most k -/
def Cp (k : Nat) (F : Hp) (x : V) : Prop := ∃ d, Dx F x d ∧ d.canLay0 = true ∧ d.depth ≤ k
theorem cp_all {k : Nat} {F : Hp} : ∀ (xs : List V), (∀ x ∈ xs, Cp k F x) → ∃ ds, DxAll F xs ds ∧ PyData.canLayAll0 ds = true ∧ PyData.depthAll ds ≤ k
  | [], _ => ⟨[], .nil, by simp [PyData.canLayAll0], by simp [PyData.depthAll]⟩
  | x :: r, h => by
    obtain ⟨ds, h1, h2, h3⟩ := cp_all r fun y m => h y (List.mem_cons_of_mem _ m)
    obtain ⟨d, k1, k2, k3⟩ := h x List.mem_cons_self
    refine ⟨d :: ds, .cons k1 h1, by simp only [PyData.canLayAll0, k2, h2, Bool.and_self], ?_⟩
    simp only [PyData.depthAll]
    omega
theorem cp_tup {k : Nat} {F : Hp} {p : Addr} {xs : List V} (e : F p = some (.tup xs)) (h : ∀ x ∈ xs, Cp k F x) : Cp (k + 1) F (.ref p) := by
  obtain ⟨ds, h1, h2, h3⟩ := cp_all xs h
  refine ⟨.tuple ds, .tup e h1, by simpa only [PyData.canLay0] using h2, ?_⟩
  simp only [PyData.depth]
  omega
theorem cp_str {k : Nat} {F : Hp} {z : Str} (a : Asc z) : Cp k F (.str z) := by
  refine ⟨.str z, .str z, ?_, by simp [PyData.depth]⟩
  have : PyData.strOk z = true := by
    unfold PyData.strOk
    rw [Array.all_eq_true_iff_forall_mem]
    intro c m
    exact decide_eq_true (Nat.lt_trans (a c (Array.mem_toList_iff.mpr m)) (by decide))
  simpa only [PyData.canLay0] using this
theorem cp_int {k : Nat} {F : Hp} {i : Int} : Cp k F (.int i) := ⟨.int i, .int i, by simp [PyData.canLay0], by simp [PyData.depth]⟩
theorem Cp.more {k : Nat} {F F' : Hp} {x : V} (s : Same F F') (h : Cp k F x) : Cp k F' x := by
  obtain ⟨d, h1, h2⟩ := h
  exact ⟨d, Dx.stays (stays_of s) d x h1, h2⟩
/-- x != () of a tuple -/
theorem ne_nil {K : PySem.W.Frag} {F H : Hp} {t p : Addr} {xs : List V} {k : Nat} (s : Same F H) (e : F t = some (.tup xs)) (h : ∀ x ∈ xs, Cp k F x) (hk : k ≤ 50) (ep : H p = some (.tup [])) {Q : VK} (q : Q (.bl (!decide (xs = []))) H) : rNeD K (.ref t) (.ref p) H Q := by
  obtain ⟨ds, h1, h2, h3⟩ := cp_all xs h
  have dx : Dx H (.ref t) (.tuple ds) := Dx.stays (stays_of s) _ _ (.tup e h1)
  refine ⟨.tuple ds, .tuple [], dp_dx _ _ dx (by simpa only [PyData.canLay0] using h2), .tup (SqT.of ep) .nil, ?_, by decide +kernel, ?_⟩
  · unfold SeqAt.shaped
    rw [Bool.and_eq_true]
    refine ⟨by simpa only [PyData.canLay0] using h2, decide_eq_true ?_⟩
    simp only [PyData.depth]
    omega
  · have : PyData.eqv (.tuple ds) (.tuple []) = decide (xs = []) := by
      cases h1 with
      | nil => simp [PyData.eqv, PyData.eqvAll]
      | cons _ _ => simp [PyData.eqv, PyData.eqvAll]
    rw [this]
    exact q
end Cu

namespace Cu
open PySem PySem.Spec PyProof.Rows L2
open AutoSeq1 (wpAny_loadPart')
section
variable {X : Cx}
/-- sorted(t) of a tuple of fewer than 64 texts -/
theorem call_sortTu : CallR X (.builtin "sorted") (fun xs H Q => ∃ (a : Addr) (ks : List Str), xs = [.ref a] ∧ SqT X.K H a (ks.map V.str) ∧ ks.length < 64 ∧
    ∀ ys p, ys.Perm ks → sortedS ys = true → H p = none → Q (.ref p) (upd H p (.lst (ys.map V.str)))) := by
  intro pins s σ H xs us Q I r q
  obtain ⟨a, ks, ex, hd, h64, q⟩ := q
  subst ex
  obtain ⟨u, eu, rx⟩ := vals1 r
  subst eu
  cases rx
  obtain ⟨its, rv, ⟨o, ho, hc, n, hdat⟩, hz⟩ := I.tuple hd
  have hS : StrsAre its ks := rv.strs
  have hal : its.length = ks.length := by
    have := rv.length
    rw [List.length_map] at this
    exact this.symm
  refine Calls.call_function_entry PyProof.Rows.kind_sorted PyProof.Rows.plain_sorted PyProof.Rows.entry_sorted (PyProof.Rows.args_sorted1 _) ?_
  unfold Builtin.«sorted»
  refine wpAny_bind (m := checkCount "sorted" 1 1 _) (wpAny_pure ?_)
  refine wpAny_bind (wpAny_collect_seq (A := X.A.in1) a (.inr rfl) ho hc hdat (fun h' hk => ?_) (by rw [List.size_toArray, hal, sizeLine_eq]; omega))
  have I1 : Inv X pins σ H { s with heap := h' } := I.kept (t' := s.toks) hk
  rw [List.toList_toArray]
  refine wpAny_bind (wpAny_newList ?_ (by rw [hal, sizeLine_eq]; omega))
  have hoL : (h'.push (seqObj "list" its.toArray 0)).get? h'.objs.size = some (seqObj "list" its.toArray 0) := Heap.get?_push_size _ rfl
  show wpAny _ _ _ _ _ { s with heap := h'.push (seqObj "list" its.toArray 0) }
  refine wpAny_bind (wpAny_holding (wpAny_call_entry PyProof.Rows.slot_list_sort ⟨_, hoL, rfl⟩ PyProof.Rows.entry_list_sort
    (list_sort_treeK strKind_oneLt (s := { s with heap := h'.push (seqObj "list" its.toArray 0) }) hoL hS.keysOf (fun v₁ v₂ rest e => keyKind_strs (by rw [← e]; exact hS)) (by rw [hal]; exact h64) fun st' hp hs => ⟨_, rfl, ?_⟩)
    (PyProof.Rows.args_list_sort _)))
  obtain ⟨ys, g1, g2, g3⟩ := sorted_out_str hS hp hs
  obtain ⟨e', he'⟩ := PyProof.Rows.sortedHeap_at (vs := its) (out := (arrOf st').map (·.2)) hoL
  have hlen : (ys.map V.str).length ≤ sizeLine := by
    rw [List.length_map, g2.length_eq]
    exact Nat.le_trans (Nat.le_of_lt h64) (by decide)
  refine wpAny_pure ⟨_, rfl, .ref h'.objs.size, upd H h'.objs.size (.lst (ys.map V.str)), I1.laid (t' := s.toks) (fun b u e => ?_) (Nat.le_refl _)
    (show ObjOk X.prog X.w _ _ _ (.lst (ys.map V.str)) from ⟨hlen, ((arrOf st').map (·.2)).toList, e', vals_of_strs g1, by rw [Array.toArray_toList]; exact he'⟩), rfl, q ys _ g2 g3 (I1.hok.fresh (Nat.le_refl _))⟩
  have hb : b < h'.objs.size := Heap.lt_size e
  rw [PyProof.Rows.sortedHeap_old (Nat.ne_of_lt hb) (by rw [size_push']; exact Nat.lt_succ_of_lt hb)]
  exact Heap.get?_push_of_some _ e
end
section
variable {prog : Program} {w : World} {A : Around} {E : Value → Shared → Prop} {s : Shared}
theorem code_tuple_new_dict {r d : Addr} {n : Nat} {P : Nat → Value → Prop} {OK : Heap → Prop} {Q₁ : Value → Shared → Prop} (K : PySem.W.KdlSrc prog w "dict" r d n P OK) (hh : A.handled = none) (hok : OK s.heap)
    (h : ∀ (h' : Heap) (tk : Nat) (acc : Array Value), (∀ b o, s.heap.get? b = some o → h'.get? b = some o) → ItemsOf P acc n → Q₁ (.ref h'.objs.size) { s with heap := h'.push { cls := .type "tuple", data := .seq acc }, toks := tk }) (hsz : n ≤ sizeLine) :
    codeAny (model prog w) A (.call (.builtin "tuple.__new__") ⟨[.type "tuple", .ref r], []⟩) (wants Q₁ E) s := by
  refine codeAny_of_tree ?_
  show wpAny _ A.in1 (do checkBuiltinCall "tuple.__new__" ⟨[.type "tuple", .ref r], []⟩; again (.builtin "tuple.__new__" ⟨[.type "tuple", .ref r], []⟩)) _ _ s
  refine wpAny_bind (wpAny_of_eq (F.newCall_tuple_1 _) (wpAny_pure ⟨plainId_quiet F.plain_tuple_new _, codeAny_builtin F.entry_tuple_new ?_⟩))
  rw [Around.under_plainId F.plain_tuple_new _]
  have hsub := sub_tuple_self
  have hinit := init_tuple_lookup
  have hmh := madeHere_tuple
  have hT : s.TypeIs (.ref r) "dict" := K.type s hok
  have hc : ∀ (R : List Value → Shared → Prop) (E' : Value → Shared → Prop), (∀ (h' : Heap) (tk : Nat) (acc : Array Value), (∀ b o, s.heap.get? b = some o → h'.get? b = some o) → ItemsOf P acc n → R acc.toList { s with heap := h', toks := tk }) → wpAny (model prog w) A.in1 (collect (.ref r)) R E' s := fun R E' q => PySem.W.kdu_collect (E := E') (R := R) (A := A.in1) K hh hok hsz q
  wp_walk using wpAny_typeOf hT, hc
  intro h' tk acc hm hacc
  show wpAny _ _ (Builtin.Tuple.tupleExact acc.toList.toArray >>= fun v => ret v) _ _ _
  unfold Builtin.Tuple.tupleExact
  refine wpAny_bind (wpAny_newObj_type ?_ (by show acc.toList.toArray.size ≤ sizeLine; simp only [Array.toArray_toList]; rw [hacc.1]; exact hsz))
  refine wpAny_pure ?_
  have e : acc.toList.toArray = acc := by simp
  rw [e]
  exact h h' tk acc hm hacc
theorem call_tuple_src {r d : Addr} {n : Nat} {P : Nat → Value → Prop} {OK : Heap → Prop} {Q : Value → Shared → Prop} (K : PySem.W.KdlSrc prog w "dict" r d n P OK) (hh : A.handled = none) (hok : OK s.heap)
    (hQ : ∀ (h' : Heap) (tk : Nat) (acc : Array Value), (∀ b o, s.heap.get? b = some o → h'.get? b = some o) → ItemsOf P acc n → Q (.ref h'.objs.size) { s with heap := h'.push { cls := .type "tuple", data := .seq acc }, toks := tk }) (hsz : n ≤ sizeLine) :
    wpAny (model prog w) A (call (.type "tuple") [.ref r]) Q E s := by
  refine callType_codes (Q₁ := fun obj s₁ => s₁.TypeIs obj "tuple" ∧ Q obj s₁) F.called_tuple (F.typeCall_tuple_1 _) F.entry_object_init
    (code_tuple_new_dict K hh hok (fun h' tk acc hm hacc => ⟨⟨_, Heap.get?_push_size _ rfl, rfl⟩, hQ h' tk acc hm hacc⟩) hsz) fun obj s₁ h₁ => ?_
  exact ⟨h₁.1, F.args_object_init_2 obj _, object_init_meets F.called_tuple.init.lookup F.called_tuple.made (by decide) prog w A.in1 _ s₁ ⟨h₁.1, rfl, h₁.2⟩⟩
end
section
variable {X : Cx}
/-- tuple(d) of a dict -/
theorem call_tupD (hcalm : X.calm = true) : CallR X (.type "tuple") (fun xs H Q => ∃ (a : Addr) (kvs : List (Key × V)), xs = [.ref a] ∧ Rd H a (.dK kvs) ∧ ∀ p, H p = none → Q (.ref p) (upd H p (.tup (kvs.map fun kv => kV kv.1)))) := by
  intro pins s σ H xs us Q I r q
  obtain ⟨a, kvs, ex, hd, q⟩ := q
  subst ex
  obtain ⟨u, eu, rx⟩ := vals1 r
  subst eu
  cases rx
  obtain ⟨z, lo, vs, rk, dd⟩ := dk_rd I.hok hd
  obtain ⟨ep, hat⟩ := dd.dictAt
  have hl : kvs.length = vs.length := Paired.length rk
  refine call_tuple_src (PySem.W.kdl_dict (knd := mixKind X.prog X.w) (kvs := vs) (ep := ep) lo) (I.ok.hd hcalm) hat (fun h' tk acc hk hacc => ?_) (by rw [← hl]; exact z)
  have I1 : Inv X pins σ H { s with heap := h', toks := tk } := I.kept hk
  have rv : Vals (kvs.map fun kv => kV kv.1) acc.toList := by
    have el : acc.toList.length = acc.size := by simp
    refine vals_of_at (by rw [List.length_map, el, hacc.1, hl]) fun j x w h1 h2 => ?_
    obtain ⟨k, y, hky, hi⟩ := hacc.2 j w (by rw [← Array.getElem?_toList]; exact h2)
    have e1 : (kvs.map (·.1))[j]? = some k := by
      rw [KV.keys rk, List.getElem?_map, hky] <;> rfl
    have e2 : (kvs.map fun kv => kV kv.1)[j]? = some (kV k) := by
      have e3 : (kvs.map fun kv => kV kv.1) = (kvs.map (·.1)).map kV := by rw [List.map_map] <;> rfl
      rw [e3, List.getElem?_map, e1] <;> rfl
    rw [e2] at h1
    cases h1
    exact keyIs_rel hi
  have ea : acc = acc.toList.toArray := by simp
  rw [ea]
  have I2 : Inv X pins σ (upd H h'.objs.size (.tup (kvs.map fun kv => kV kv.1))) { s with heap := h'.push { cls := .type "tuple", data := .seq acc.toList.toArray }, toks := tk } :=
    I1.laid (t' := tk) (fun b o e => Heap.get?_push_of_some _ e) (Nat.le_refl _) (show ObjOk X.prog X.w _ _ _ (.tup _) from ⟨by rw [List.length_map]; exact z, acc.toList, rv, IsTup.new _ _⟩)
  exact ⟨.ref h'.objs.size, _, I2, rfl, q _ (I1.hok.fresh (Nat.le_refl _))⟩
end
end Cu

namespace Cu
open PySem PySem.Spec PyProof.Rows L2 PySem.SeqAt
section
variable {X : Cx}
/-- min(l) of a list of data that are alike: an item at whose place the least of the data stands -/
def rMinD (K : PySem.W.Frag) : List V → Hp → VK → Prop := fun vs H Q => ∃ (a : Addr) (xs : List V) (d : PyData) (ds : List PyData), vs = [.ref a] ∧ SqL K H a xs ∧ DpAll K H xs (d :: ds) ∧ PySem.W.AlikeAll (d :: ds) ∧ PyData.depthAll (d :: ds) ≤ 20 ∧
  ∀ (i : Nat) (v : V), xs[i]? = some v → (d :: ds)[i]? = some (PySem.W.minD d ds) → Q v H
theorem call_minD (hc : X.calm = true) (hu : X.A.units + 64 < cLine) : CallR X (.builtin "min") (rMinD X.K) := by
  intro pins s σ H vs us Q I r h
  obtain ⟨a, xs, d, ds, rfl, hs, dp, al, dep, q⟩ := h
  obtain ⟨its, rv, hl, _⟩ := I.list hs
  rw [Vals.ref1 r]
  obtain ⟨as, hr⟩ := Dp.readsAll I _ _ _ dp rv
  refine PySem.W.min_list_data (I.ok.hd hc) hl.isList (by rw [List.toList_toArray]; exact hr) al (by omega) fun i v h' tk bs hv rd keep => ?_
  have hv' : its[i]? = some v := by simpa using hv
  obtain ⟨x, ex, rx⟩ : ∃ x, xs[i]? = some x ∧ RelV x v := by
    have hl1 : i < its.length := (List.getElem?_eq_some_iff.mp hv').1
    have hl2 : i < xs.length := by rw [rv.length]; exact hl1
    obtain ⟨u, eu, ru⟩ := rv.get (List.getElem?_eq_getElem hl2)
    rw [hv'] at eu
    cases eu
    exact ⟨xs[i], List.getElem?_eq_getElem hl2, ru⟩
  have ed : (d :: ds)[i]? = some (PySem.W.minD d ds) := by
    obtain ⟨bs', rd', lt, _, _⟩ := PySem.W.readsAll_at hr i v hv'
    have e1 := ((Reads.keeps keep rd').unique _ _ rd).1
    rw [List.getD_eq_getElem?_getD, List.getElem?_eq_getElem lt] at e1
    rw [List.getElem?_eq_getElem lt]
    exact congrArg some e1
  exact ⟨x, H, I.kept keep, rx, q i x ex ed⟩
/-- l.remove(y) of data: the first item that is like y is gone -/
def rRemD (K : PySem.W.Frag) : V → List V → Hp → VK → Prop := fun x vs H Q => ∃ (l : Addr) (xs : List V) (y : V) (ds : List PyData) (d : PyData) (j : Nat), x = .ref l ∧ vs = [y] ∧ H l = some (.lst xs) ∧ DpAll K H xs ds ∧ Dp K H y d ∧ PyData.plainAll ds = true ∧ d.plain = true ∧ d.depth ≤ 20 ∧
  PySem.SeqAt.dataPlace ds d = some j ∧ Q .non (upd H l (.lst (xs.eraseIdx j)))
theorem mt_removeD (hu : X.A.units + 64 < cLine) : MtM X "list.remove" (rRemD X.K) := by
  intro pins s σ H x xs v us Q I rx rxs h
  obtain ⟨l, zs, y, ds, d, j, rfl, rfl, hH, dp, dy, hp, hd, dep, pl, q⟩ := h
  cases rx
  obtain ⟨u, rfl, ru⟩ := rxs.one
  obtain ⟨z, its, n, r, hl, e⟩ := I.lstM hH
  obtain ⟨as, hr⟩ := Dp.readsAll I _ _ _ dp r
  obtain ⟨bs, rd⟩ := Dp.reads I _ _ _ dy ru
  refine PySem.SeqAt.remove_list_data (l := l) (vs := its.toArray) ⟨_, e, rfl, n, rfl⟩ (by rw [List.toList_toArray]; exact hr) rd hp hd ?_ pl (by rw [List.size_toArray]; omega) ?_
  · have : min (PyData.depthAll ds) d.depth ≤ d.depth := Nat.min_le_right _ _
    omega
  · refine ⟨.non, _, I.lset (its' := its.eraseIdx j) (t' := s.toks) hH e ?_ (r.eraseIdx j) ?_, rfl, q⟩
    · show its.toArray.eraseIdxIfInBounds j = (its.eraseIdx j).toArray
      rw [List.eraseIdxIfInBounds_toArray]
    · have := List.length_eraseIdx_le zs j
      omega
end
end Cu

namespace Cu
open PySem PySem.Spec PyProof.Rows L2
def nameS (z : Str) : Bool := decide (1 ≤ z.length) && decide (z.length ≤ 8) && (tl z).all (between "a" "z")
theorem between_az (c : Nat) : between "a" "z" c = decide (c ∈ (Str.ofString "abcdefghijklmnopqrstuvwxyz").cps.toList) := by
  have e1 : (Str.ofString "a").cps.toList = [97] := by decide +kernel
  have e2 : (Str.ofString "z").cps.toList = [122] := by decide +kernel
  have e3 : (Str.ofString "abcdefghijklmnopqrstuvwxyz").cps.toList = [97, 98, 99, 100, 101, 102, 103, 104, 105, 106, 107, 108, 109, 110, 111, 112, 113, 114, 115, 116, 117, 118, 119, 120, 121, 122] := by decide +kernel
  unfold between
  rw [e1, e2, e3, one_lt, one_lt, Bool.eq_iff_iff]
  simp only [Bool.and_eq_true, Bool.not_eq_true', decide_eq_false_iff_not, decide_eq_true_eq, List.mem_cons, List.not_mem_nil, or_false]
  omega
def lessAt (zs : List Str) (i : Nat) : Bool := match zs[i]?, zs[i + 1]? with
  | some a, some b => decide (tl a < tl b)
  | _, _ => false
def ascL (zs : List Str) : Bool := (List.range (zs.length - 1)).all (lessAt zs)
theorem less_at {zs : List Str} {i : Nat} {a b : Str} (h1 : zs[i]? = some a) (h2 : zs[i + 1]? = some b) : lessAt zs i = decide (tl a < tl b) := by
  unfold lessAt
  rw [h1, h2]
def LtS (a b : Str) : Prop := tl a < tl b
theorem ltS_irr (a : Str) : ¬ LtS a a := List.lt_irrefl _
theorem ltS_trans {a b c : Str} (h1 : LtS a b) (h2 : LtS b c) : LtS a c := List.lt_trans h1 h2
theorem ltS_of {a b : Str} (h1 : ¬ LtS b a) (h2 : a ≠ b) : LtS a b := by
  unfold LtS at *
  rcases Decidable.em (tl a < tl b) with h | h
  · exact h
  · exact absurd (ext_t (List.le_antisymm (List.not_lt.mp h1) (List.not_lt.mp h))) h2
theorem asc_eq : ∀ {A B : List Str}, A.Pairwise LtS → B.Pairwise LtS → (∀ k, k ∈ A ↔ k ∈ B) → A = B
  | [], [], _, _, _ => rfl
  | [], b :: _, _, _, h => nomatch (h b).mpr List.mem_cons_self
  | a :: _, [], _, _, h => nomatch (h a).mp List.mem_cons_self
  | a :: A, b :: B, hA, hB, h => by
    obtain ⟨a1, a2⟩ := List.pairwise_cons.mp hA
    obtain ⟨b1, b2⟩ := List.pairwise_cons.mp hB
    have ab : a = b := by
      rcases List.mem_cons.mp ((h a).mp List.mem_cons_self) with e | e
      · exact e
      · rcases List.mem_cons.mp ((h b).mpr List.mem_cons_self) with e' | e'
        · exact e'.symm
        · exact absurd (ltS_trans (a1 b e') (b1 a e)) (ltS_irr a)
    subst ab
    rw [asc_eq a2 b2 fun k => ?_]
    constructor
    · intro m
      rcases List.mem_cons.mp ((h k).mp (List.mem_cons_of_mem _ m)) with e | e
      · rw [e] at m
        exact absurd (a1 a m) (ltS_irr a)
      · exact e
    · intro m
      rcases List.mem_cons.mp ((h k).mpr (List.mem_cons_of_mem _ m)) with e | e
      · rw [e] at m
        exact absurd (b1 a m) (ltS_irr a)
      · exact e
theorem ascL_iff : ∀ (zs : List Str), ascL zs = true ↔ ∀ i, ∀ a b, zs[i]? = some a → zs[i + 1]? = some b → LtS a b := by
  intro zs
  unfold ascL
  rw [List.all_eq_true]
  constructor
  · intro h i a b h1 h2
    have hi : i + 1 < zs.length := (List.getElem?_eq_some_iff.mp h2).1
    have := h i (List.mem_range.mpr (by omega))
    rw [less_at h1 h2] at this
    show tl a < tl b
    exact of_decide_eq_true this
  · intro h i m
    have hi := List.mem_range.mp m
    have l1 : i < zs.length := by omega
    have l2 : i + 1 < zs.length := by omega
    rw [less_at (List.getElem?_eq_getElem l1) (List.getElem?_eq_getElem l2)]
    exact decide_eq_true (show tl _ < tl _ from h i _ _ (List.getElem?_eq_getElem l1) (List.getElem?_eq_getElem l2))
theorem asc_pair : ∀ (zs : List Str), (∀ i a b, zs[i]? = some a → zs[i + 1]? = some b → LtS a b) → zs.Pairwise LtS
  | [], _ => .nil
  | [a], _ => List.pairwise_singleton _ _
  | a :: b :: r, h => by
    have ih := asc_pair (b :: r) fun i x y h1 h2 => h (i + 1) x y h1 h2
    refine List.pairwise_cons.mpr ⟨fun c m => ?_, ih⟩
    have ab : LtS a b := h 0 a b rfl rfl
    rcases List.mem_cons.mp m with e | e
    · rw [e]
      exact ab
    · exact ltS_trans ab ((List.pairwise_cons.mp ih).1 c e)
theorem rising_adj : ∀ (p : Str) (l : List Str), risingS p l = true → ∀ i a b, (p :: l)[i]? = some a → (p :: l)[i + 1]? = some b → ¬ LtS b a
  | p, [], _, i, a, b, _, h2 => by cases h2
  | p, x :: r, h, 0, a, b, h1, h2 => by
    cases h1
    cases h2
    have : (!ltCps x.cps.toList p.cps.toList && risingS x r) = true := h
    rw [Bool.and_eq_true, ltCps_eq] at this
    intro z
    have z' : x.cps.toList < p.cps.toList := z
    rw [decide_eq_true z'] at this
    cases this.1
  | p, x :: r, h, i + 1, a, b, h1, h2 => by
    have : (!ltCps x.cps.toList p.cps.toList && risingS x r) = true := h
    rw [Bool.and_eq_true] at this
    exact rising_adj x r this.2 i a b h1 h2
theorem sorted_asc {ys : List Str} (nd : ys.Nodup) (h : sortedS ys = true) : ys.Pairwise LtS := by
  apply asc_pair
  intro i a b h1 h2
  have nb : ¬ LtS b a := by
    cases ys with
    | nil => cases h1
    | cons p l => exact rising_adj p l h i a b h1 h2
  refine ltS_of nb fun e => ?_
  obtain ⟨l1, e1⟩ := List.getElem?_eq_some_iff.mp h1
  obtain ⟨l2, e2⟩ := List.getElem?_eq_some_iff.mp h2
  exact List.pairwise_iff_getElem.mp nd i (i + 1) l1 l2 (Nat.lt_succ_self i) (by rw [e1, e2, e])
theorem asc_same {zs ys : List Str} (nd : ys.Nodup) (h : sortedS ys = true) (m : ∀ k, k ∈ ys ↔ k ∈ zs) : decide (zs = ys) = ascL zs := by
  have sy := sorted_asc nd h
  cases e : ascL zs with
  | true => exact decide_eq_true (asc_eq (asc_pair zs ((ascL_iff zs).mp e)) sy fun k => (m k).symm)
  | false =>
    refine decide_eq_false fun z => ?_
    subst z
    have : ascL zs = true := (ascL_iff zs).mpr fun i a b h1 h2 => by
      obtain ⟨l1, e1⟩ := List.getElem?_eq_some_iff.mp h1
      obtain ⟨l2, e2⟩ := List.getElem?_eq_some_iff.mp h2
      rw [← e1, ← e2]
      exact List.pairwise_iff_getElem.mp sy i (i + 1) l1 l2 (Nat.lt_succ_self i)
    rw [e] at this
    cases this
theorem eqvAll_strs : ∀ (zs ys : List Str), PyData.eqvAll (zs.map PyData.str) (ys.map PyData.str) = decide (zs = ys)
  | [], [] => by simp [PyData.eqvAll]
  | [], _ :: _ => by simp [PyData.eqvAll]
  | _ :: _, [] => by simp [PyData.eqvAll]
  | a :: zs, b :: ys => by
    rw [List.map_cons, List.map_cons]
    show (PyData.eqv (.str a) (.str b) && PyData.eqvAll (zs.map PyData.str) (ys.map PyData.str)) = _
    rw [eqvAll_strs zs ys]
    have e : PyData.eqv (.str a) (.str b) = decide (a = b) := by
      rw [Bool.eq_iff_iff, decide_eq_true_iff]
      simp [PyData.eqv]
    rw [e, Bool.eq_iff_iff, Bool.and_eq_true, decide_eq_true_iff, decide_eq_true_iff, decide_eq_true_iff, List.cons.injEq]
theorem eqv_strs (zs ys : List Str) : PyData.eqv (.list (zs.map PyData.str)) (.list (ys.map PyData.str)) = decide (zs = ys) := by
  rw [← eqvAll_strs]
  simp [PyData.eqv]
theorem strOk_of {z : Str} (h : Asc z) : PyData.strOk z = true := by
  unfold PyData.strOk
  rw [Array.all_eq_true_iff_forall_mem]
  intro c m
  exact decide_eq_true (Nat.lt_trans (h c (Array.mem_toList_iff.mpr m)) (by decide))
theorem lay_strs : ∀ (zs : List Str), (∀ z ∈ zs, Asc z) → PyData.canLayAll0 (zs.map PyData.str) = true ∧ PyData.depthAll (zs.map PyData.str) ≤ 0
  | [], _ => ⟨rfl, by simp [PyData.depthAll]⟩
  | z :: zs, h => by
    obtain ⟨h1, h2⟩ := lay_strs zs fun y m => h y (List.mem_cons_of_mem _ m)
    have h3 := strOk_of (h z List.mem_cons_self)
    constructor
    · simp [PyData.canLay0, PyData.canLayAll0, h1, h3]
    · simp [PyData.depth, PyData.depthAll] at h2 ⊢
      exact h2
theorem shaped_strs {zs : List Str} (h : ∀ z ∈ zs, Asc z) : SeqAt.shaped (.list (zs.map PyData.str)) = true := by
  obtain ⟨h1, h2⟩ := lay_strs zs h
  unfold SeqAt.shaped
  rw [Bool.and_eq_true]
  refine ⟨by simpa [PyData.canLay0] using h1, decide_eq_true ?_⟩
  simp only [PyData.depth]
  omega
theorem dp_strs {K : PySem.W.Frag} {H : Hp} {l : Addr} {zs : List Str} (h : SqL K H l (zs.map V.str)) : Dp K H (.ref l) (.list (zs.map PyData.str)) := by
  refine .lst h ?_
  have : ∀ ys : List Str, DpAll K H (ys.map V.str) (ys.map PyData.str) := by
    intro ys
    induction ys with
    | nil => exact .nil
    | cons y ys ih => exact .cons (.str y) ih
  exact this zs
theorem name_asc {z : Str} (h : nameS z = true) : Asc z := by
  unfold nameS at h
  rw [Bool.and_eq_true] at h
  intro c m
  have := List.all_eq_true.mp h.2 c m
  rw [between_az] at this
  have e : ∀ c ∈ (Str.ofString "abcdefghijklmnopqrstuvwxyz").cps.toList, c < 128 := by decide +kernel
  exact e c (of_decide_eq_true this)
theorem nodup_len {α : Type} [BEq α] [LawfulBEq α] : ∀ {l m : List α}, l.Nodup → (∀ x ∈ l, x ∈ m) → l.length ≤ m.length
  | [], _, _, _ => Nat.zero_le _
  | x :: l, m, nd, h => by
    have mx := h x List.mem_cons_self
    have ih := nodup_len (l := l) (m := m.erase x) (List.nodup_cons.mp nd).2 fun y my => (List.mem_erase_of_ne (fun z => (List.nodup_cons.mp nd).1 (by rw [← z]; exact my))).mpr (h y (List.mem_cons_of_mem _ my))
    rw [List.length_erase_of_mem mx] at ih
    have := List.length_pos_of_mem mx
    show l.length + 1 ≤ m.length
    omega
abbrev sShare : Stmt := topS 8
theorem scShare : FnScope ["documents", "others"] ["documents", "others"] (defScope sShare) := ⟨rfl, rfl, rfl, by decide +kernel, rfl, by decide +kernel, by decide +kernel⟩
theorem gen_scopeF {env : Env} {scope : Scope} {x o : Str} (h1 : scope.kind = .function) (h2 : scope.isCoroutine = false) (h3 : ∀ y ∈ scope.names, y.2 ≠ .cell ∧ (y.2 = .free → y.1 = o)) (h4 : scope.names.lookup (".0" : Str) = some NameKind.local) (h5 : scope.names.lookup x = some .local) (h6 : ∃ c, env.cells.lookup o = some c) : GxR.GenS env scope x :=
  ⟨h1, h2, fun y m => (h3 y m).1, h4, h5, fun y m e => by rw [(h3 y m).2 e]; exact h6⟩
section
variable {P : Program} {w : World} {K : PySem.W.Frag} {mg : Str → Option Value} {base : Heap}
def spShare (K : PySem.W.Frag) (tb : Addr) : Sp := fun vs H Q _ => ∃ (d o : Addr) (xs ys : List V), vs = [.ref d, .ref o] ∧ GxR.TabG H tb ∧ SqT K H d xs ∧ (SqL K H o ys ∨ SqT K H o ys) ∧ xs.all flatV = true ∧ ys.all flatV = true ∧ ∀ H', GxR.Tabbed tb H H' → Q (.bl (xs.any fun x => inV x ys)) H'
theorem ok_share {f c tb : Addr} {fd : FuncData} {k : Nat} (F : Fun K "share" "share" sShare f fd) (hc : fd.code = .ref c) (TB : GxR.TabB base mg c tb) (T : Bl mg) : FnOk P w K mg base CX0 (k + 1) f fd ["documents", "others"] (spShare K tb) := by
  refine okC F hc scShare (fun vs H Q E h => ?_) (fun A outer s H vs Q E hr h => ?_)
  · obtain ⟨d, o, xs, ys, rfl, _⟩ := h
    rfl
  · obtain ⟨d, o, xs, ys, rfl, tab, hx, hy, fx, fy, q⟩ := h
    refine ⟨_, (pss_one (ps_ret (pe_anyG hr (by rfl) T.any TB rfl (gen_scopeF (o := "others") rfl rfl (by decide +kernel) rfl rfl ⟨_, rfl⟩) (pv 0) (genR_in (j := 1) rfl rfl rfl rfl rfl rfl (fun cells c h => by
      show (some ((cells.lookup (Str.ofString "others")).getD 0)) = some c
      rw [h]
      rfl))))), ?_⟩
    refine ⟨.ref d, rfl, tab, _, _, ⟨d, o, xs, ys, rfl, hx, rfl, hy, fx, fy, rfl, rfl⟩, fun H2 tb2 => ?_⟩
    rw [inAt_any]
    exact q H2 tb2
end
/-- a heap of actions, in the view F -/
structure HeapIn (F : Hp) (t : Addr) (rows : List Row) : Prop where
  at_ : F t = some (.tup (rows.map fun r => V.ref r.1))
  row : ∀ r ∈ rows, F r.1 = some (.tup [r.2.1, .ref r.2.2.1])
  doc : ∀ r ∈ rows, F r.2.2.1 = some (.tup r.2.2.2)
  flat : ∀ r ∈ rows, r.2.2.2.all flatV = true ∧ flatV r.2.1 = true
  few : ∀ r ∈ rows, r.2.2.2.length ≤ 8
theorem HeapIn.more {F F' : Hp} {t : Addr} {rows : List Row} (h : HeapIn F t rows) (s : Same F F') : HeapIn F' t rows :=
  ⟨s _ _ h.at_, fun r m => s _ _ (h.row r m), fun r m => s _ _ (h.doc r m), h.flat, h.few⟩
theorem HeapIn.rows {K : PySem.W.Frag} {F : Hp} {t : Addr} {rows : List Row} (h : HeapIn F t rows) : Rows_ K F (.ref t) rows :=
  ⟨⟨t, rfl, SqT.of h.at_⟩, fun r m => ⟨SqT.of (h.row r m), SqT.of (h.doc r m), (h.flat r m).1⟩⟩
/-- reach, as it is written -/
def step (ns : List V) (st : List V × List V) (r : Row) : List V × List V := if inV r.2.1 ns || (r.2.2.2.any fun x => inV x st.1) then (st.1 ++ r.2.2.2, st.2 ++ [r.2.1]) else st
def runs (ns : List V) (rows : List Row) : List V × List V := rows.foldl (step ns) ([], [])
def reachL (ns : List V) (rows : List Row) : List V := (runs ns rows).2
section
variable {P : Program} {w : World} {K : PySem.W.Frag} {mg : Str → Option Value} {base : Heap}
theorem HeapIn.rev {F F' : Hp} {t p : Addr} {rows : List Row} (h : HeapIn F t rows) (s : Same F F') (e : F' p = some (.tup (rows.map fun r => V.ref r.1).reverse)) : HeapIn F' p rows.reverse :=
  ⟨by rw [List.map_reverse]; exact e, fun r m => s _ _ (h.row r (List.mem_reverse.mp m)), fun r m => s _ _ (h.doc r (List.mem_reverse.mp m)), fun r m => h.flat r (List.mem_reverse.mp m), fun r m => h.few r (List.mem_reverse.mp m)⟩
end
def byName (ns : List V) (r : Row) : Bool := inV r.2.1 ns
def meets (r r' : Row) : Bool := r.2.2.2.any fun x => inV x r'.2.2.2
theorem any_docs (ds : List V) (fs : List Row) : (ds.any fun x => inV x (fs.flatMap fun r => r.2.2.2)) = fs.any fun r' => ds.any fun x => inV x r'.2.2.2 := by
  rw [Bool.eq_iff_iff, List.any_eq_true, List.any_eq_true]
  constructor
  · rintro ⟨x, mx, h⟩
    obtain ⟨y, my, e⟩ := List.any_eq_true.mp h
    obtain ⟨r, mr, yr⟩ := List.mem_flatMap.mp my
    exact ⟨r, mr, List.any_eq_true.mpr ⟨x, mx, List.any_eq_true.mpr ⟨y, yr, e⟩⟩⟩
  · rintro ⟨r, mr, h⟩
    obtain ⟨x, mx, h⟩ := List.any_eq_true.mp h
    obtain ⟨y, my, e⟩ := List.any_eq_true.mp h
    exact ⟨x, mx, List.any_eq_true.mpr ⟨y, List.mem_flatMap.mpr ⟨r, mr, my⟩, e⟩⟩
theorem runs_pick (ns : List V) (rows : List Row) : runs ns rows = ((pick (byName ns) meets rows).flatMap (fun r => r.2.2.2), (pick (byName ns) meets rows).map fun r => r.2.1) := by
  induction rows using snoc_ind with
  | h0 => rfl
  | h1 l r ih =>
    have e : runs ns (l ++ [r]) = step ns (runs ns l) r := by
      unfold runs
      rw [List.foldl_append]
      rfl
    rw [e, ih, pick_snoc]
    unfold step pick1
    rw [any_docs]
    show (if (byName ns r || (pick (byName ns) meets l).any (meets r)) = true then _ else _) = _
    split
    · rw [List.flatMap_append, List.map_append]
      simp
    · rfl
theorem reach_pick (ns : List V) (rows : List Row) : reachL ns rows = (pick (byName ns) meets rows).map fun r => r.2.1 := by
  unfold reachL
  rw [runs_pick]
abbrev sSub : Stmt := topS 21
abbrev nSub : List Str := ["_law_hand_here", "_law_some", "_law_count", "_law_left", "_law_turn", "_law_at"]
theorem scSub : FnScope nSub ["_law_hand_here", "_law_some", "_law_count"] (defScope sSub) := ⟨rfl, rfl, rfl, by decide +kernel, rfl, by decide +kernel, by decide +kernel⟩
def ixV (is : List Nat) : List V := is.map fun (i : Nat) => V.int (i : Int)
theorem ixV_erase (is : List Nat) (k : Nat) : (ixV is).eraseIdx k = ixV (is.eraseIdx k) := by
  unfold ixV
  induction is generalizing k with
  | nil => rfl
  | cons i r ih =>
    cases k with
    | zero => rfl
    | succ k =>
      show _ :: (List.map _ r).eraseIdx k = _ :: _
      rw [ih]
theorem pick_all {α : Type} (zs : List α) (d : α) : (List.range zs.length).map (fun i => zs.getD i d) = zs := by
  apply List.ext_getElem
  · rw [List.length_map, List.length_range]
  · intro i h1 h2
    rw [List.getElem_map, List.getElem_range, List.getD_eq_getElem?_getD, List.getElem?_eq_getElem h2]
    rfl
section
variable {P : Program} {w : World} {K : PySem.W.Frag} {mg : Str → Option Value} {base : Heap}
def spSub : Sp := fun vs H Q _ => ∃ (a so : Addr) (zs : List V) (c n : Nat), vs = [.ref a, .ref so, .int (c : Int)] ∧ Hand H a n ∧ n + 1000 < 2 ^ 40 ∧ so ≠ a ∧ H so = some (.lst zs) ∧ c ≤ zs.length ∧ zs.length ≤ 100 ∧
  ∀ H' t ys, Upto a H H' → Hand H' a (n + 100) → H t = none → H' t = some (.tup ys) → ys.Sublist zs → ys.length = c → Q (.ref t) H'
theorem ok_sub {f fT : Addr} {fd fdT : FuncData} {k : Nat} (F : Fun K "_law_subset" "_law_subset" sSub f fd) (DT : Df K mg "_law_take" sTake ["_law_hand_here", "_law_many"] fT fdT) (T : Bl mg) : FnOk P w K mg base CX0 (k + 2) f fd ["_law_hand_here", "_law_some", "_law_count"] spSub := by
  have GT : FnOk P w K mg base CX0 1 fT fdT _ spTake := ok_take DT.F T
  refine F.ok scSub (fun vs H Q E h => ?_) (fun cdv A outer s H vs Q E hr h => ?_)
  · obtain ⟨a, so, zs, c, n, rfl, _⟩ := h
    rfl
  · obtain ⟨a, so, zs, c, n, rfl, hH, hn, sa, es, cz, z1, q⟩ := h
    refine ⟨_, (pss_cons (ps_set (i := 3) scSub.nd rfl (.inl rfl) (pe_listRg rfl (by rfl) T.list (prg_1 (by rfl) T.range (pe_callB call_len_seq (by rfl) T.len PySem.boot_len (pa_cons (pv 1) pa_nil)))))
  (pss_cons (ps_for PassesOwn.never rfl (pi_range1 (by rfl) T.range (pa_cons (pe_op op_sub (pe_callB call_len_seq (by rfl) T.len PySem.boot_len (pa_cons (pv 1) pa_nil)) (pv 2)) pa_nil)) (pg_name (i := 4) scSub.nd rfl (.inl rfl))
  (pss_one (ps_expr (pe_bm PySem.F.plainAttrs_list PySem.F.slot_list_pop PySem.F.type_list_pop mt_popAt (pv 3) (pa_cons (pe_call GT (hr.mono (by omega)) (by rfl) DT.g DT.F.kp DT.b .nil pass0 (pa_cons (pv 0) (pa_cons (pe_callB call_len_seq (by rfl) T.len PySem.boot_len (pa_cons (pv 3) pa_nil)) pa_nil))) pa_nil)))))
  (pss_one (ps_ret (pe_callTy call_tuple_of (by rfl) T.tuple (by decide +kernel) (pa_cons (pe_lc (own := [("_law_at", 5)]) (g := gName 5) (tt := tYes) rfl scSub.nd (pi_list (pv 3)) (blkOk_by (own := [("_law_at", 5)]) (N := nSub) (sc := defScope sSub) (by decide +kernel)) (fun _ _ _ _ _ => (pg_name (i := 5) scSub.nd rfl (.inl rfl))) (fun _ _ _ _ _ => pts_nil) (fun _ _ _ _ _ => (pe_ix (show IxR _ (rIxL K) from ix_list) (pv 1) (pv 5) (fun _ _ => rfl)))) pa_nil)))))), ?_⟩
    refine ⟨.ref so, rfl, so, zs, rfl, .inl (SqL.of es), _, rfl, RgOk.of_le (by omega) (by omega) (by omega) (by omega), fun lf nlf => ?_⟩
    have la : lf ≠ a := Hand.ne hH.some nlf
    have lso : so ≠ lf := ne_of_none es nlf
    have e0 : rgV 0 (zs.length : Int) = ixV (List.range zs.length) := by
      unfold rgV ixV
      rw [show ((zs.length : Int) - 0).toNat = zs.length by omega]
      exact List.map_congr_left fun i _ => by rw [Int.zero_add]
    rw [e0]
    refine ⟨.ref so, rfl, so, zs, rfl, .inl (SqL.of ((upd_ne lso).trans es)), .int c, rfl, zs.length, c, rfl, rfl, _, rfl, by omega, by omega, ?_⟩
    refine for_range (lo := 0) (n := ((zs.length : Int) - c).toNat) (fun i σ H1 => ∃ (y4 y5 : Option V) (is : List Nat), σ = [some (.ref a), some (.ref so), some (.int c), some (.ref lf), y4, y5] ∧ Upto a H H1 ∧ Hand H1 a (n + i) ∧ H1 lf = some (.lst (ixV is)) ∧ is.Sublist (List.range zs.length) ∧ is.length + i = zs.length) ?_ ?_ ?_
    · exact ⟨none, none, List.range zs.length, rfl, .new nlf, hH.new nlf, upd_same, List.Sublist.refl _, by rw [List.length_range]; rfl⟩
    · rintro i σ H1 hi ⟨y4, y5, is, rfl, u1, h1, el, sub, len⟩
      have isl : (ixV is).length = is.length := List.length_map _
      refine ⟨.ref lf, rfl, .inl ⟨rfl, _, SqL.of el⟩, .ref a, rfl, .ref lf, rfl, lf, _, rfl, .inl (SqL.of el), a, _, n + i, rfl, h1, by omega, by omega, by omega, fun H2 d u2 h2 d0 d1 => ?_⟩
      have el2 : H2 lf = _ := u2 lf _ la el
      obtain ⟨v, g1, g2⟩ := at_of (xs := ixV is) d0 d1
      obtain ⟨j, s1, s2, s3, _, _⟩ := atI_get g2
      refine ⟨lf, _, d, j, v, rfl, rfl, el2, by omega, by omega, s1, s2, ?_⟩
      rw [ixV_erase]
      refine ⟨_, _, is.eraseIdx j, rfl, (u1.trans u2).put nlf, (h2.at (upd_ne la.symm)).mono (by omega), upd_same, (List.eraseIdx_sublist _ _).trans sub, ?_⟩
      rw [List.length_eraseIdx, if_pos (by omega)]
      omega
    · rintro σ H1 ⟨y4, y5, is, rfl, u1, h1, el, sub, len⟩
      have esz : H1 so = some (.lst zs) := u1 so _ sa es
      refine ⟨.ref lf, rfl, lf, rfl, ⟨_, SqL.of el⟩, fun D nD => ?_⟩
      have Da := Hand.ne h1.some nD
      have Dso : so ≠ D := ne_of_none esz nD
      have Dlf : lf ≠ D := ne_of_none el nD
      have isl : (ixV is).length = is.length := List.length_map _
      refine lc_list (K := K) (a := lf) (xs := ixV is) (fun i H2 => H2 = upd H1 D (.lst ((is.take i).map fun i => zs.getD i .non))) ?_ ?_ ?_ ?_
      · rfl
      · rintro i H2 _ rfl
        exact SqL.of ((upd_ne Dlf).trans el)
      · rintro i x H2 hx rfl
        unfold ixV at hx
        rw [List.getElem?_map] at hx
        obtain ⟨j, hj, rfl⟩ := Option.map_eq_some_iff.mp hx
        have jm := List.mem_range.mp (sub.subset (List.mem_of_getElem? hj))
        refine ⟨rfl, lc_yes ?_⟩
        obtain ⟨v, g1, g2⟩ := at_of (xs := zs) (i := (j : Int)) (by omega) (by omega)
        refine ⟨.ref so, rfl, .int j, rfl, so, zs, j, v, rfl, rfl, SqL.of ((upd_ne Dso).trans esz), g2, _, upd_same, ?_, ?_⟩
        · rw [List.length_map]
          rw [List.length_take]
          exact small1000 (by omega)
        · rw [upd_upd, List.take_add_one, hj, List.map_append]
          have ev : zs.getD j .non = v := by
            rw [List.getD_eq_getElem?_getD]
            rw [Int.toNat_natCast] at g1
            rw [g1]
            rfl
          show _ = upd H1 D (.lst (_ ++ [zs.getD j .non]))
          rw [ev]
      · rintro H2 rfl
        rw [isl, List.take_length]
        refine ⟨D, _, rfl, .inl ⟨SqL.of upd_same, fun t nt => ?_⟩⟩
        have uD : Upto a H (upd H1 D _) := u1.trans (.new (o := .lst (is.map fun i => zs.getD i .non)) nD)
        have ta : t ≠ a := Hand.ne (h1.new nD).some nt
        refine q _ t (is.map fun i => zs.getD i .non) (uD.trans (.new nt)) (((h1.new nD).new nt).mono (by omega)) (uD.free ta nt) upd_same ?_ ?_
        · have := sub.map (fun i => zs.getD i .non)
          rw [pick_all] at this
          exact this
        · rw [List.length_map]
          omega
end
abbrev sHeap : Stmt := topS 22
abbrev nHeap : List Str := ["_law_hand_here", "_law_count", "_law_width", "_law_letters", "_law_pool", "_law_documents", "_law_found", "_law_turn", "_law_name", "_law_size", "_law_at"]
theorem scHeap : FnScope nHeap ["_law_hand_here", "_law_count", "_law_width"] (defScope sHeap) := ⟨rfl, rfl, rfl, by decide +kernel, rfl, by decide +kernel, by decide +kernel⟩
def tails : List Str := ["", "y", "longest"]
def nameAt (i : Nat) : Str := (⟨#[97 + i % 26]⟩ : Str) ++ tails.getD (i / 26) ""
def pool (n : Nat) : List Str := (List.range n).map nameAt
theorem pool_nodup {n : Nat} (h : n ≤ 40) : (pool n).Nodup := by
  have e : (pool 40).Nodup := by decide +kernel
  have s : (pool n).Sublist (pool 40) := by
    unfold pool
    exact (List.range_sublist.mpr h).map _
  exact e.sublist s
theorem pool_sub {n : Nat} (h : n ≤ 40) {z : Str} (m : z ∈ pool n) : z ∈ pool 40 := by
  unfold pool at m ⊢
  exact ((List.range_sublist.mpr h).map _).subset m
abbrev abc : Str := "abcdefghijklmnopqrstuvwxyz"
theorem abc_at {i : Nat} : atI abc.cps.toList (((i : Nat) : Int) % 26) = some (97 + i % 26) := by
  have e : ∀ j < 26, atI abc.cps.toList ((j : Nat) : Int) = some (97 + j) := by decide +kernel
  have := e (i % 26) (Nat.mod_lt _ (by decide))
  rw [← this]
  congr 1
theorem tail_at {i : Nat} (h : i < 40) : atI [V.str "", .str "y", .str "longest"] (((i : Nat) : Int) / 26) = some (.str (tails.getD (i / 26) "")) := by
  have e : ∀ i < 40, atI [V.str "", .str "y", .str "longest"] (((i : Nat) : Int) / 26) = some (.str (tails.getD (i / 26) "")) := by decide +kernel
  exact e i h
theorem name_short {i : Nat} (h : i < 40) : (nameAt i).length ≤ 8 ∧ (tails.getD (i / 26) "").length ≤ 7 := by
  have e : ∀ i < 40, (nameAt i).length ≤ 8 ∧ (tails.getD (i / 26) "").length ≤ 7 := by decide +kernel
  exact e i h
def docs8 : List V := [.str "a", .str "b", .str "c", .str "doc", .str "e", .str "longname", .str "z", .str "zz"]
theorem docs_cut {wd : Nat} (h : wd ≤ 8) : cutV docs8 none (some (wd : Int)) = docs8.take wd ∧ (docs8.take wd).length = wd := by
  have e : ∀ wd < 9, cutV docs8 none (some ((wd : Nat) : Int)) = docs8.take wd ∧ (docs8.take wd).length = wd := by decide +kernel
  exact e wd (by omega)
theorem docs_flat {ys : List V} (h : ys.Sublist docs8) : ys.all flatV = true ∧ ys.length ≤ 8 := by
  refine ⟨?_, h.length_le⟩
  rw [List.all_eq_true]
  intro y m
  have e : docs8.all flatV = true := by decide +kernel
  exact List.all_eq_true.mp e y (h.subset m)
theorem same_at {F H : Hp} {t : Addr} {o : HO} (s : Same F H) (e : H t = some o) : Same (upd F t o) H := fun b x eb => by
  by_cases z : b = t
  · subst z
    rw [upd_same] at eb
    cases eb
    exact e
  · rw [upd_ne z] at eb
    exact s b x eb
theorem erase_str (ps : List Str) (k : Nat) : (ps.map V.str).eraseIdx k = (ps.eraseIdx k).map V.str := by
  induction ps generalizing k with
  | nil => rfl
  | cons i r ih =>
    cases k with
    | zero => rfl
    | succ k =>
      show _ :: (List.map _ r).eraseIdx k = _ :: _
      rw [ih]
theorem erase_perm : ∀ (ps : List Str) (j : Nat) (y : Str), ps[j]? = some y → (y :: ps.eraseIdx j).Perm ps
  | x :: r, 0, y, e => by
    cases e
    exact List.Perm.refl _
  | x :: r, j + 1, y, e => (List.Perm.swap x y (r.eraseIdx j)).trans ((erase_perm r j y e).cons x)
theorem taken_nodup {zs ps : List Str} {j : Nat} {y : Str} (nd : (zs ++ ps).Nodup) (e : ps[j]? = some y) : ((zs ++ [y]) ++ ps.eraseIdx j).Nodup := by
  have : (zs ++ (y :: ps.eraseIdx j)).Perm (zs ++ ps) := List.Perm.append_left zs (erase_perm ps j y e)
  rw [List.append_assoc]
  exact this.nodup_iff.mpr nd
theorem taken_mem {zs ps : List Str} {j : Nat} {y z : Str} (e : ps[j]? = some y) (m : z ∈ (zs ++ [y]) ++ ps.eraseIdx j) : z ∈ zs ++ ps := by
  have : (zs ++ (y :: ps.eraseIdx j)).Perm (zs ++ ps) := List.Perm.append_left zs (erase_perm ps j y e)
  rw [List.append_assoc] at m
  exact this.mem_iff.mp m
/-- the heap so far -/
structure Made (a D dc fo : Addr) (G H : Hp) (n N wd i : Nat) (rows : List Row) (zs ps : List Str) (F1 H1 : Hp) : Prop where
  made : Mk a G H F1 H1
  hand : Hand H1 a (n + 102 * i)
  d1 : F1 D = none
  d2 : F1 dc = none
  d3 : F1 fo = none
  eD : H1 D = some (.lst (ps.map V.str))
  edc : H1 dc = some (.lst (docs8.take wd))
  efo : H1 fo = some (.lst (rows.map fun r => V.ref r.1))
  len : rows.length = i
  row : ∀ r ∈ rows, F1 r.1 = some (.tup [r.2.1, .ref r.2.2.1])
  doc : ∀ r ∈ rows, F1 r.2.2.1 = some (.tup r.2.2.2)
  sub : ∀ r ∈ rows, r.2.2.2.Sublist docs8 ∧ 0 < r.2.2.2.length
  nms : rows.map (fun r => r.2.1) = zs.map V.str
  nd : (zs ++ ps).Nodup
  sz : ps.length + i = N
  inn : ∀ z ∈ zs ++ ps, z ∈ pool N
section
variable {P : Program} {w : World} {K : PySem.W.Frag} {mg : Str → Option Value} {base : Heap}
def spHeap : Sp := fun vs H Q _ => ∃ (a : Addr) (c wd n : Nat) (F : Hp), vs = [.ref a, .int (c : Int), .int (wd : Int)] ∧ Hand H a n ∧ n + 10000 < 2 ^ 40 ∧ c ≤ 40 ∧ 1 ≤ wd ∧ wd ≤ 8 ∧ Same F H ∧ F a = none ∧
  ∀ F' H' t rows (zs : List Str), Mk a F H F' H' → Hand H' a (n + 102 * c) → HeapIn F' t rows → rows.length = c → rows.map (fun r => r.2.1) = zs.map V.str → zs.Nodup → (∀ z ∈ zs, z ∈ pool 40) → (∀ r ∈ rows, r.2.2.2.Sublist docs8 ∧ 0 < r.2.2.2.length) → Q (.ref t) H'
theorem ok_heap {f fT fO fS : Addr} {fd fdT fdO fdS : FuncData} {k : Nat} (F : Fun K "_law_heap" "_law_heap" sHeap f fd) (DT : Df K mg "_law_take" sTake ["_law_hand_here", "_law_many"] fT fdT) (DO : Df K mg "_law_of" sOf ["_law_hand_here", "_law_some"] fO fdO) (DS : Df K mg "_law_subset" sSub ["_law_hand_here", "_law_some", "_law_count"] fS fdS) (T : Bl mg) :
    FnOk P w K mg base CX0 (k + 3) f fd ["_law_hand_here", "_law_count", "_law_width"] spHeap := by
  have GT : FnOk P w K mg base CX0 1 fT fdT _ spTake := ok_take DT.F T
  have GL : FnOk P w K mg base CX0 2 fO fdO _ spOfL := ok_ofL DO.F DT T
  have GS : FnOk P w K mg base CX0 2 fS fdS _ spSub := ok_sub DS.F DT T
  refine F.ok scHeap (fun vs H Q E h => ?_) (fun cdv A outer s H vs Q E hr h => ?_)
  · obtain ⟨a, c, wd, n, G, rfl, _⟩ := h
    rfl
  · obtain ⟨a, c, wd, n, G, rfl, hH, hn, c40, w1, w8, sG, ga, q⟩ := h
    refine ⟨_, (pss_cons (ps_set (i := 3) scHeap.nd rfl (.inr rfl) pe_str)
  (pss_cons (ps_setLc (i := 4) (own := [("_law_at", 10)]) (g := gName 10) (tt := tYes) rfl scHeap.nd rfl rfl (sw_true rfl rfl rfl (by decide +kernel)) (pi_range1 (by rfl) T.range (pa_cons (pe_callB (call_max2 rfl) (by rfl) T.max (by decide +kernel) (pa_cons pe_int (pa_cons (pv 1) pa_nil))) pa_nil)) (blkOk_by (own := [("_law_at", 10)]) (N := nHeap) (sc := defScope sHeap) (by decide +kernel)) (fun _ _ _ _ _ => (pg_name (i := 10) scHeap.nd rfl (.inl rfl))) (fun _ _ _ _ _ => pts_nil) (fun _ _ _ _ _ => (pe_op op_add_str (pe_ix ix_str (pv 3) (pe_op op_mod (pv 10) pe_int) (fun _ _ => rfl)) (pe_ix (show IxR _ (rIxL K) from ix_list) (pe_lst (pa_cons pe_str (pa_cons pe_str (pa_cons pe_str pa_nil)))) (pe_op op_fdiv (pv 10) pe_int) (fun _ _ => rfl)))))
  (pss_cons (ps_set (i := 5) scHeap.nd rfl (.inl rfl) (pe_slice sl_list (pe_lst (pa_cons pe_str (pa_cons pe_str (pa_cons pe_str (pa_cons pe_str (pa_cons pe_str (pa_cons pe_str (pa_cons pe_str (pa_cons pe_str pa_nil))))))))) po_none (po_some (pv 2))))
  (pss_cons (ps_set (i := 6) scHeap.nd rfl (.inl rfl) (pe_lst pa_nil))
  (pss_cons (ps_for PassesOwn.never rfl (pi_range1 (by rfl) T.range (pa_cons (pv 1) pa_nil)) (pg_name (i := 7) scHeap.nd rfl (.inl rfl))
  (pss_cons (ps_set (i := 8) scHeap.nd rfl (.inl rfl) (pe_bm PySem.F.plainAttrs_list PySem.F.slot_list_pop PySem.F.type_list_pop mt_popAt (pv 4) (pa_cons (pe_call GT (hr.mono (by omega)) (by rfl) DT.g DT.F.kp DT.b .nil pass0 (pa_cons (pv 0) (pa_cons (pe_callB call_len_seq (by rfl) T.len PySem.boot_len (pa_cons (pv 4) pa_nil)) pa_nil))) pa_nil)))
  (pss_cons (ps_set (i := 9) scHeap.nd rfl (.inl rfl) (pe_callB (call_min2 rfl) (by rfl) T.min (by decide +kernel) (pa_cons (pv 2) (pa_cons (pe_call GL (hr.mono (by omega)) (by rfl) DO.g DO.F.kp DO.b .nil pass0 (pa_cons (pv 0) (pa_cons (pe_lst (pa_cons pe_int (pa_cons pe_int (pa_cons pe_int (pa_cons pe_int (pa_cons pe_int (pa_cons pe_int (pa_cons pe_int pa_nil)))))))) pa_nil))) pa_nil))))
  (pss_one (ps_expr (pe_bm PySem.F.plainAttrs_list PySem.F.slot_list_append PySem.F.type_list_append mt_append (pv 6) (pa_cons (pe_tup (pa_cons (pv 8) (pa_cons (pe_call GS (hr.mono (by omega)) (by rfl) DS.g DS.F.kp DS.b .nil pass0 (pa_cons (pv 0) (pa_cons (pv 5) (pa_cons (pv 9) pa_nil)))) pa_nil))) pa_nil)))))))
  (pss_one (ps_ret (pe_callTy call_tuple_of (by rfl) T.tuple (by decide +kernel) (pa_cons (pv 6) pa_nil))))))))), ?_⟩
    refine ⟨.int c, rfl, 26, c, rfl, ?_⟩
    obtain ⟨N, hN, N40, cN, N1⟩ : ∃ N : Nat, (if (c : Int) > 26 then (c : Int) else 26) = (N : Int) ∧ N ≤ 40 ∧ c ≤ N ∧ 0 < N := by
      by_cases z : (c : Int) > 26
      · exact ⟨c, if_pos z, c40, Nat.le_refl _, by omega⟩
      · exact ⟨26, if_neg z, by decide, by omega, by decide⟩
    rw [hN]
    refine ⟨N, rfl, by omega, by omega, fun D nD => ?_⟩
    have Da := Hand.ne hH.some nD
    refine lc_range (lo := 0) (n := (N : Int).toNat) (fun i H2 => H2 D = some (.lst ((pool i).map V.str)) ∧ Same H H2) ?_ ?_ ?_
    · exact ⟨upd_same, same_upd nD⟩
    · rintro i H2 hi ⟨eD, s2⟩
      refine ⟨rfl, lc_yes ?_⟩
      have i40 : i < 40 := by omega
      refine ⟨.str abc, rfl, .int (0 + (i : Nat)), rfl, 0 + (i : Nat), 26, rfl, rfl, (show (0 : Int) < 26 by decide), abc, _, 97 + i % 26, rfl, rfl, by decide +kernel, by rw [Int.zero_add]; exact abc_at, by show 3 ≤ sizeLine; decide, fun l nl => ?_⟩
      refine ⟨.int (0 + (i : Nat)), rfl, 0 + (i : Nat), 26, rfl, rfl, ⟨by decide, by decide⟩, l, _, _, .str (tails.getD (i / 26) ""), rfl, rfl, SqL.of upd_same, by rw [Int.zero_add]; exact tail_at i40, _, _, rfl, rfl, ?_, _, (upd_ne (ne_of_none eD nl)).trans eD, ?_, ?_, ?_⟩
      · have := (name_short i40).2
        show 1 + (tails.getD (i / 26) "").length ≤ sizeLine
        exact Nat.le_trans (show 1 + (tails.getD (i / 26) "").length ≤ 1000 by omega) (by decide)
      · rw [List.length_map]
        unfold pool
        rw [List.length_map, List.length_range]
        exact small1000 (by omega)
      · rw [upd_same]
        unfold pool
        rw [List.range_succ, List.map_append, List.map_append]
        rfl
      · exact same_put (s2.trans (same_upd nl)) nD
    · rintro H2 ⟨eD, s2⟩
      rw [Int.toNat_natCast] at eD
      refine ⟨by show 8 ≤ sizeLine; decide, fun l8 n8 => ⟨.int wd, rfl, wd, rfl, l8, docs8, rfl, SqL.of upd_same, fun dc ndc => ⟨by show 0 ≤ sizeLine; decide, fun fo nfo => ⟨.int c, rfl, c, rfl, by omega, by omega, ?_⟩⟩⟩⟩
      have s3 := (s2.trans (same_upd (o := .lst docs8) n8)).trans (same_upd (o := .lst (cutV docs8 none (some (wd : Int)))) ndc)
      have s4 := s3.trans (same_upd (o := .lst []) nfo)
      have hdc : H dc = none := (s2.trans (same_upd (o := .lst docs8) n8)).free ndc
      have hfo : H fo = none := s3.free nfo
      have Ddc : D ≠ dc := ne_of_none ((same_upd (o := .lst docs8) n8) _ _ eD) ndc
      have Dfo : D ≠ fo := ne_of_none ((same_upd (o := .lst (cutV docs8 none (some (wd : Int)))) ndc) _ _ ((same_upd (o := .lst docs8) n8) _ _ eD)) nfo
      have dcfo : dc ≠ fo := ne_of_none upd_same nfo
      have aD : a ≠ D := Da.symm
      have adc : a ≠ dc := by
        rintro rfl
        obtain ⟨o, eo⟩ := hH.some
        rw [eo] at hdc
        cases hdc
      have afo : a ≠ fo := by
        rintro rfl
        obtain ⟨o, eo⟩ := hH.some
        rw [eo] at hfo
        cases hfo
      have pl : (pool N).length = N := by
        unfold pool
        rw [List.length_map, List.length_range]
      refine for_range (lo := 0) (n := (c : Int).toNat) (fun i σ H1 => ∃ (y7 y8 y9 y10 : Option V) (rows : List Row) (zs ps : List Str) (F1 : Hp), σ = [some (.ref a), some (.int c), some (.int wd), some (.str abc), some (.ref D), some (.ref dc), some (.ref fo), y7, y8, y9, y10] ∧ Made a D dc fo G H n N wd i rows zs ps F1 H1) ?_ ?_ ?_
      · refine ⟨_, _, _, _, [], [], pool N, G, rfl, ⟨⟨.of s4, ?_, sG.trans s4, Same.refl _, fun _ _ _ z => z⟩, hH.same s4, sG.free nD, sG.free hdc, sG.free hfo, ?_, ?_, upd_same, rfl, fun r m => (nomatch m), fun r m => (nomatch m), fun r m => (nomatch m), rfl, pool_nodup N40, pl, fun z m => m⟩⟩
        · exact (hH.same s4).some
        · exact (same_upd (o := .lst []) nfo) _ _ ((same_upd (o := .lst (cutV docs8 none (some (wd : Int)))) ndc) _ _ ((same_upd (o := .lst docs8) n8) _ _ eD))
        · rw [(docs_cut w8).1]
          exact (upd_ne dcfo).trans upd_same
      · rintro i σ H1 hi ⟨y7, y8, y9, y10, rows, zs, ps, F1, rfl, M⟩
        have ic : i < c := by omega
        have psz := M.sz
        have F1a := M.made.fa hH.some ga
        have pml : (ps.map V.str).length = ps.length := List.length_map _
        refine ⟨.ref D, rfl, .inl ⟨rfl, _, SqL.of M.eD⟩, .ref a, rfl, .ref D, rfl, D, _, rfl, .inl (SqL.of M.eD), a, _, _, rfl, M.hand, by omega, by omega, by omega, fun H2 d u2 h2 d0 d1 => ?_⟩
        obtain ⟨v, g1, g2⟩ := at_of (xs := ps.map V.str) d0 d1
        obtain ⟨j, q1, q2, q3, _, _⟩ := atI_get g2
        have q2' := q2
        rw [List.getElem?_map] at q2'
        obtain ⟨y, hy, rfl⟩ := Option.map_eq_some_iff.mp q2'
        refine ⟨D, _, d, j, .str y, rfl, rfl, u2 D _ aD.symm M.eD, by omega, by omega, q1, q2, ?_⟩
        rw [erase_str]
        -- the size
        refine ⟨.int wd, rfl, .ref a, rfl, by show 7 ≤ sizeLine; decide, fun l nl => ?_⟩
        have h2' : Hand (upd H2 D (.lst ((ps.eraseIdx j).map V.str))) a _ := h2.at (upd_ne aD)
        have la := Hand.ne h2'.some nl
        refine ⟨a, l, _, _, rfl, h2'.new nl, by omega, la, upd_same, (by show 0 < 7; decide), (by show 7 ≤ 1000; decide), fun H4 v u4 h4 mv => ?_⟩
        obtain ⟨t4, rfl, t5, t6⟩ : ∃ t : Nat, v = .int (t : Int) ∧ t ≤ 4 ∧ 1 ≤ t := by
          simp only [List.mem_cons, List.not_mem_nil, or_false] at mv
          rcases mv with rfl | rfl | rfl | rfl | rfl | rfl | rfl
          · exact ⟨1, rfl, by decide, by decide⟩
          · exact ⟨1, rfl, by decide, by decide⟩
          · exact ⟨1, rfl, by decide, by decide⟩
          · exact ⟨2, rfl, by decide, by decide⟩
          · exact ⟨2, rfl, by decide, by decide⟩
          · exact ⟨3, rfl, by decide, by decide⟩
          · exact ⟨4, rfl, by decide, by decide⟩
        refine ⟨wd, t4, rfl, ?_⟩
        obtain ⟨sz, hsz, szw, sz1⟩ : ∃ sz : Nat, (if (t4 : Int) < wd then (t4 : Int) else wd) = (sz : Int) ∧ sz ≤ wd ∧ 1 ≤ sz := by
          by_cases z : (t4 : Int) < wd
          · exact ⟨t4, if_pos z, by omega, t6⟩
          · exact ⟨wd, if_neg z, Nat.le_refl _, w1⟩
        rw [hsz]
        -- what is as it was
        have uu : Upto a H1 H2 := u2
        have hD4 : ∀ o, H1 D = some o → H D = none := fun _ _ => nD |> fun z => z
        have keep4 : ∀ b o, b ≠ a → b ≠ D → H1 b = some o → H4 b = some o := fun b o n1 n2 e => u4 b o n1 ((same_upd nl) _ _ ((upd_ne n2).trans (u2 b o n1 e)))
        have eD4 : H4 D = some (.lst ((ps.eraseIdx j).map V.str)) := u4 D _ aD.symm ((same_upd nl) _ _ upd_same)
        have edc4 : H4 dc = some (.lst (docs8.take wd)) := keep4 dc _ adc.symm Ddc.symm M.edc
        have efo4 : H4 fo = _ := keep4 fo _ afo.symm Dfo.symm M.efo
        have sub4 : Same F1 H4 := fun b o e => keep4 b o (ne_of_none e F1a) (ne_of_none e M.d1) (M.made.sub b o e)
        have up4 : Upto a H H4 := fun b o n1 e => keep4 b o n1 (ne_of_none e nD) (M.made.upto b o n1 e)
        refine ⟨.ref fo, rfl, .inl ⟨rfl, _, SqL.of efo4⟩, .str y, rfl, .ref a, rfl, .ref dc, rfl, .int sz, rfl, a, dc, docs8.take wd, sz, _, rfl, h4, by omega, adc.symm, edc4, by rw [(docs_cut w8).2]; exact szw, by rw [(docs_cut w8).2]; omega, fun H6 t ys u6 h6 nt et sub len => ⟨by show 2 ≤ sizeLine; decide, fun p np => ?_⟩⟩
        have F1t : F1 t = none := sub4.free nt
        have sub6 : Same F1 H6 := same_upto sub4 u6 F1a
        have subT : Same (upd F1 t (.tup ys)) H6 := same_at sub6 et
        have ta : t ≠ a := Hand.ne h4.some nt
        have tD : D ≠ t := ne_of_none eD4 nt
        have tdc : dc ≠ t := ne_of_none edc4 nt
        have tfo : fo ≠ t := ne_of_none efo4 nt
        have eD6 := u6 D _ aD.symm eD4
        have edc6 := u6 dc _ adc.symm edc4
        have efo6 := u6 fo _ afo.symm efo4
        have pD : D ≠ p := ne_of_none eD6 np
        have pdc : dc ≠ p := ne_of_none edc6 np
        have pfo : fo ≠ p := ne_of_none efo6 np
        have pa : p ≠ a := Hand.ne h6.some np
        have subP := same_both (o := .tup [.str y, .ref t]) subT np
        have ht : H t = none := up4.free ta nt
        have up6 : Upto a H H6 := up4.trans u6
        have hp0 : H p = none := up6.free pa np
        have mono : Same F1 (upd (upd F1 t (.tup ys)) p (.tup [.str y, .ref t])) := (same_upd F1t).trans (same_upd (subT.free np))
        refine ⟨fo, _, _, rfl, rfl, (upd_ne pfo).trans efo6, ?_, ?_⟩
        · rw [List.length_map, M.len]
          exact small1000 (by omega)
        · refine ⟨_, _, _, _, rows ++ [(p, .str y, t, ys)], zs ++ [y], ps.eraseIdx j, _, rfl, ⟨⟨?_, ?_, ?_, M.made.mono.trans mono, ?_⟩, ?_, ?_, ?_, ?_, ?_, ?_, ?_, ?_, ?_, ?_, ?_, ?_, taken_nodup M.nd hy, ?_, fun z m => M.inn z (taken_mem hy m)⟩⟩
          · exact (up6.trans (.new np)).put hfo
          · obtain ⟨o, eo⟩ := (h6.new (o := .tup [.str y, .ref t]) np).some
            exact ⟨o, (upd_ne afo).trans eo⟩
          · refine same_put subP ?_
            rw [upd_ne pfo, upd_ne tfo]
            exact M.d3
          · intro b o e nb
            have b1 := M.made.fresh b o e nb
            rw [upd_ne (ne_of_none e hp0), upd_ne (ne_of_none e ht)]
            exact b1
          · exact ((h6.new np).at (upd_ne afo)).mono (by omega)
          · rw [upd_ne pD, upd_ne tD]
            exact M.d1
          · rw [upd_ne pdc, upd_ne tdc]
            exact M.d2
          · rw [upd_ne pfo, upd_ne tfo]
            exact M.d3
          · exact (upd_ne Dfo).trans ((upd_ne pD).trans eD6)
          · exact (upd_ne dcfo).trans ((upd_ne pdc).trans edc6)
          · rw [upd_same, List.map_append]
            rfl
          · rw [List.length_append, M.len]
            rfl
          · intro r m
            rcases List.mem_append.mp m with m | m
            · exact mono _ _ (M.row r m)
            · rw [List.mem_singleton.mp m]
              exact upd_same
          · intro r m
            rcases List.mem_append.mp m with m | m
            · exact mono _ _ (M.doc r m)
            · rw [List.mem_singleton.mp m]
              exact (upd_ne (fun z => by rw [← z, et] at np; cases np)).trans upd_same
          · intro r m
            rcases List.mem_append.mp m with m | m
            · exact M.sub r m
            · rw [List.mem_singleton.mp m]
              exact ⟨sub.trans (List.take_sublist _ _), by show 0 < ys.length; omega⟩
          · rw [List.map_append, List.map_append, M.nms]
            rfl
          · rw [List.length_eraseIdx, if_pos (by omega)]
            omega
      · rintro σ H1 ⟨y7, y8, y9, y10, rows, zs, ps, F1, rfl, M⟩
        refine ⟨.ref fo, rfl, fo, _, rfl, .inl ⟨SqL.of M.efo, fun t nt => ?_⟩⟩
        have M' := M.made.trans (.new (.tup (rows.map fun r => V.ref r.1)) M.made.sub M.made.live nt)
        have s' : Same F1 (upd F1 t _) := same_upd (o := .tup (rows.map fun r => V.ref r.1)) (M.made.sub.free nt)
        have len := M.len
        rw [Int.toNat_natCast] at len
        refine q _ _ t rows zs M' ((M.hand.new nt).mono (by omega)) ⟨upd_same, fun r m => s' _ _ (M.row r m), fun r m => s' _ _ (M.doc r m), fun r m => ⟨(docs_flat (M.sub r m).1).1, ?_⟩, fun r m => (docs_flat (M.sub r m).1).2⟩ len M.nms (List.nodup_append.mp M.nd).1 (fun z m => pool_sub N40 (M.inn z (List.mem_append_left _ m))) M.sub
        have : r.2.1 ∈ zs.map V.str := by
          rw [← M.nms]
          exact List.mem_map_of_mem m
        obtain ⟨z, _, e⟩ := List.mem_map.mp this
        rw [← e]
        rfl
end
end Cu

namespace Cu
open PySem PySem.Spec PyProof.Rows L2
abbrev sUp : Stmt := topS 5
abbrev sDown : Stmt := topS 6
abbrev sReach : Stmt := topS 7
abbrev sListOf : Stmt := topS 9
theorem scUp : FnScope ["heap", "names"] ["heap", "names"] (defScope sUp) := ⟨rfl, rfl, rfl, by decide +kernel, rfl, by decide +kernel, by decide +kernel⟩
theorem scDown : FnScope ["heap", "names"] ["heap", "names"] (defScope sDown) := ⟨rfl, rfl, rfl, by decide +kernel, rfl, by decide +kernel, by decide +kernel⟩
theorem scReach : FnScope ["actions", "names", "reached", "found", "name", "documents"] ["actions", "names"] (defScope sReach) := ⟨rfl, rfl, rfl, by decide +kernel, rfl, by decide +kernel, by decide +kernel⟩
theorem scListOf : FnScope ["heap", "document"] ["heap", "document"] (defScope sListOf) := ⟨rfl, rfl, rfl, by decide +kernel, rfl, by decide +kernel, by decide +kernel⟩
section
variable {P : Program} {w : World} {K : PySem.W.Frag} {mg : Str → Option Value} {base : Heap}
def spList (K : PySem.W.Frag) (tb : Addr) : Sp := fun vs H Q _ => ∃ (v x0 : V) (rows : List Row), vs = [v, x0] ∧ GxR.TabG H tb ∧ Rows_ K H v rows ∧ flatV x0 = true ∧
  ∀ H2, GxR.Tabbed tb H H2 → ∀ l, H2 l = none → Q (.ref l) (upd H2 l (.tup ((rows.filter fun r => inV x0 r.2.2.2).map fun r => r.2.1)))
theorem ok_listOf {f c tb : Addr} {fd : FuncData} {k : Nat} (F : Fun K "list_of" "list_of" sListOf f fd) (hc : fd.code = .ref c) (TB : GxR.TabB base mg c tb) (T : Bl mg) : FnOk P w K mg base CX0 (k + 1) f fd ["heap", "document"] (spList K tb) := by
  refine okC F hc scListOf (fun vs H Q E h => ?_) (fun A outer s H vs Q E hr h => ?_)
  · obtain ⟨v, x0, rows, rfl, _⟩ := h
    rfl
  · obtain ⟨v, x0, rows, rfl, tab, hR, f0, q⟩ := h
    refine ⟨_, (pss_one (ps_ret (pe_tupG (j := 1) hr (by rfl) T.tuple TB rfl (gen_scopeF (o := "document") rfl rfl (by decide +kernel) rfl rfl ⟨_, rfl⟩) rfl (by decide) (pv 0) rfl rfl rfl rfl (fun cells c h => by
      show (some ((cells.lookup (Str.ofString "document")).getD 0)) = some c
      rw [h]
      rfl)))), ?_⟩
    exact ⟨v, rfl, tab, rows, x0, hR, rfl, f0, q⟩
end
/-- all as it was, but for one def's table -/
structure Tbk (tb : Addr) (H H' : Hp) : Prop where
  keep : ∀ b o, b ≠ tb → H b = some o → H' b = some o
  tab : GxR.TabG H' tb
theorem tab_ne {H : Hp} {tb p : Addr} (t : GxR.TabG H tb) (n : H p = none) : p ≠ tb := by
  obtain ⟨ps, e, _⟩ := t
  rintro rfl
  rw [e] at n
  cases n
theorem tab_new {H : Hp} {tb p : Addr} {o : HO} (t : GxR.TabG H tb) (n : H p = none) : GxR.TabG (upd H p o) tb := by
  have ne := tab_ne t n
  obtain ⟨ps, e, h⟩ := t
  exact ⟨ps, (upd_ne ne.symm).trans e, h⟩
theorem tab_put {H : Hp} {tb p : Addr} {o : HO} (t : GxR.TabG H tb) (n : p ≠ tb) : GxR.TabG (upd H p o) tb := by
  obtain ⟨ps, e, h⟩ := t
  exact ⟨ps, (upd_ne n.symm).trans e, h⟩
theorem Tbk.refl {tb : Addr} {H : Hp} (t : GxR.TabG H tb) : Tbk tb H H := ⟨fun _ _ _ e => e, t⟩
theorem Tbk.trans {tb : Addr} {H H1 H2 : Hp} (a : Tbk tb H H1) (b : Tbk tb H1 H2) : Tbk tb H H2 := ⟨fun x o n e => b.keep x o n (a.keep x o n e), b.tab⟩
theorem Tbk.of {tb : Addr} {H H' : Hp} (t : GxR.Tabbed tb H H') : Tbk tb H H' := ⟨fun b o n e => (t.2 b n).trans e, t.1⟩
theorem Tbk.new {tb p : Addr} {H : Hp} {o : HO} (t : GxR.TabG H tb) (n : H p = none) : Tbk tb H (upd H p o) := ⟨fun b x _ e => same_upd n b x e, tab_new t n⟩
theorem Tbk.put {tb p : Addr} {H H1 : Hp} {o : HO} (a : Tbk tb H H1) (n : H p = none) (np : p ≠ tb) : Tbk tb H (upd H1 p o) := ⟨fun b x nb e => (upd_ne (ne_of_none e n)).trans (a.keep b x nb e), tab_put a.tab np⟩
theorem Tbk.free {tb p : Addr} {H H1 : Hp} (a : Tbk tb H H1) (n : H1 p = none) (np : p ≠ tb) : H p = none := by
  cases h : H p with
  | none => rfl
  | some o =>
    rw [a.keep p o np h] at n
    cases n
theorem Tbk.same {tb : Addr} {F H H1 : Hp} (a : Tbk tb H H1) (s : Same F H) (ft : F tb = none) : Same F H1 := fun b o e => a.keep b o (ne_of_none e ft) (s b o e)
theorem runs_next (ns : List V) (rows : List Row) {i : Nat} {r : Row} (h : rows[i]? = some r) : runs ns (rows.take (i + 1)) = step ns (runs ns (rows.take i)) r := by
  unfold runs
  rw [List.take_add_one, h, List.foldl_append]
  rfl
section
variable {P : Program} {w : World} {K : PySem.W.Frag} {mg : Str → Option Value} {base : Heap}
def spReach (tb : Addr) : Sp := fun vs H Q _ => ∃ (F : Hp) (t n : Addr) (rows : List Row) (ns : List V), vs = [.ref t, .ref n] ∧ Same F H ∧ F tb = none ∧ GxR.TabG H tb ∧ HeapIn F t rows ∧ F n = some (.tup ns) ∧ ns.all flatV = true ∧ rows.length ≤ 100 ∧
  ∀ H' l, Tbk tb H H' → H l = none → H' l = some (.lst (reachL ns rows)) → Q (.ref l) H'
theorem ok_reach {f fS tb : Addr} {fd fdS : FuncData} (F : Fun K "reach" "reach" sReach f fd) (DS : Df K mg "share" sShare ["documents", "others"] fS fdS) (GS : FnOk P w K mg base CX0 1 fS fdS ["documents", "others"] (spShare K tb)) (T : Bl mg) :
    FnOk P w K mg base CX0 2 f fd ["actions", "names"] (spReach tb) := by
  refine F.ok scReach (fun vs H Q E h => ?_) (fun cdv A outer s H vs Q E hr h => ?_)
  · obtain ⟨G, t, n, rows, ns, rfl, _⟩ := h
    rfl
  · obtain ⟨G, t, n, rows, ns, rfl, sG, gt, tab, hp, en, fn, rl, q⟩ := h
    refine ⟨_, (pss_cons (ps_set (i := 2) scReach.nd rfl (.inl rfl) (pe_lst pa_nil))
  (pss_cons (ps_set (i := 3) scReach.nd rfl (.inl rfl) (pe_lst pa_nil))
  (pss_cons (ps_for PassesOwn.never rfl (pi_tup (pv 0)) (pg_tup rfl (pgs_cons (pg_name (i := 4) scReach.nd rfl (.inl rfl)) (pgs_cons (pg_name (i := 5) scReach.nd rfl (.inl rfl)) pgs_nil)))
  (pss_one (ps_if (PW.pt (pw_or (pt_cmpR op_in_seq (pv 4) (pv 1) (by rfl)) (pw_or1 (pt_val (pe_call GS hr (by rfl) DS.g DS.F.kp DS.b .nil pass0 (pa_cons (pv 5) (pa_cons (pv 2) pa_nil)))))))
  (pss_cons (ps_expr (pe_bm PySem.F.plainAttrs_list PySem.F.slot_list_append PySem.F.type_list_append mt_append (pv 3) (pa_cons (pv 4) pa_nil)))
  (pss_one (ps_expr (pe_bm PySem.F.plainAttrs_list PySem.F.slot_list_extend PySem.F.type_list_extend mt_extT (pv 2) (pa_cons (pv 5) pa_nil)))))
  pss_nil)))
  (pss_one (ps_ret (pv 3)))))), ?_⟩
    refine ⟨by show 0 ≤ sizeLine; decide, fun rd nrd => ⟨by show 0 ≤ sizeLine; decide, fun fo nfo => ?_⟩⟩
    have k1 : Tbk tb H _ := .new (o := .lst []) tab nrd
    have rdt := tab_ne tab nrd
    have k2 : Tbk tb H _ := k1.trans (.new (o := .lst []) k1.tab nfo)
    have fot := tab_ne k1.tab nfo
    have rdfo : rd ≠ fo := ne_of_none upd_same nfo
    have hfo : H fo = none := k1.free nfo fot
    refine ⟨.ref t, rfl, t, rfl, ⟨_, SqT.of (k2.same sG gt _ _ hp.at_)⟩, ?_⟩
    refine for_tup (K := K) (a := t) (xs := rows.map fun r => V.ref r.1) (fun i σ H1 => ∃ y4 y5, σ = [some (.ref t), some (.ref n), some (.ref rd), some (.ref fo), y4, y5] ∧ Tbk tb H H1 ∧ H1 rd = some (.lst (runs ns (rows.take i)).1) ∧ H1 fo = some (.lst (runs ns (rows.take i)).2) ∧
      (runs ns (rows.take i)).1.length ≤ 8 * i ∧ (runs ns (rows.take i)).2.length ≤ i ∧ (runs ns (rows.take i)).1.all flatV = true) ?_ ?_ ?_ ?_
    · exact ⟨none, none, rfl, k2, (upd_ne rdfo).trans upd_same, upd_same, Nat.le_refl _, Nat.le_refl _, rfl⟩
    · rintro i σ H1 _ ⟨_, _, _, k, _⟩
      exact SqT.of (k.same sG gt _ _ hp.at_)
    · rintro i x σ H1 hx ⟨y4, y5, rfl, k, e1, e2, l1, l2, fl⟩
      rw [List.getElem?_map] at hx
      obtain ⟨r, hr1, rfl⟩ := Option.map_eq_some_iff.mp hx
      have mr := List.mem_of_getElem? hr1
      have ilt : i < rows.length := (List.getElem?_eq_some_iff.mp hr1).1
      obtain ⟨fd1, fn1⟩ := hp.flat r mr
      have few := hp.few r mr
      have s1 := k.same sG gt
      refine ⟨r.1, _, rfl, SqT.of (s1 _ _ (hp.row r mr)), rfl, _, _, rfl, _, _, rfl, rfl, ?_⟩
      refine ⟨r.2.1, rfl, .ref n, rfl, n, ns, rfl, .inr (SqT.of (s1 _ _ en)), fn1, fn, _, rfl, ?_⟩
      have nx := runs_next ns rows hr1
      -- taken
      have yes : ∀ H2, Tbk tb H H2 → H2 rd = some (.lst (runs ns (rows.take i)).1) → H2 fo = some (.lst (runs ns (rows.take i)).2) → (inV r.2.1 ns || (r.2.2.2.any fun x => inV x (runs ns (rows.take i)).1)) = true →
          ∃ H3, H3 = upd (upd H2 fo (.lst ((runs ns (rows.take i)).2 ++ [r.2.1]))) rd (.lst ((runs ns (rows.take i)).1 ++ r.2.2.2)) ∧ Tbk tb H H3 ∧ H3 rd = some (.lst (runs ns (rows.take (i + 1))).1) ∧ H3 fo = some (.lst (runs ns (rows.take (i + 1))).2) ∧
            (runs ns (rows.take (i + 1))).1.length ≤ 8 * (i + 1) ∧ (runs ns (rows.take (i + 1))).2.length ≤ i + 1 ∧ (runs ns (rows.take (i + 1))).1.all flatV = true := by
        intro H2 k2 f1 f2 hb
        rw [nx]
        unfold step
        rw [if_pos hb]
        refine ⟨_, rfl, (k2.put hfo fot).put nrd rdt, upd_same, (upd_ne rdfo.symm).trans upd_same, ?_, ?_, ?_⟩
        · rw [List.length_append]
          omega
        · rw [List.length_append]
          show _ + 1 ≤ _
          omega
        · rw [List.all_append, fl, fd1]
          rfl
      have no : (inV r.2.1 ns || (r.2.2.2.any fun x => inV x (runs ns (rows.take i)).1)) = false → runs ns (rows.take (i + 1)) = runs ns (rows.take i) := by
        intro hb
        rw [nx]
        unfold step
        rw [if_neg (by rw [hb]; exact Bool.false_ne_true)]
      cases h1 : inV r.2.1 ns with
      | true =>
        refine iffT (by first | rfl | exact h1) ?_
        obtain ⟨H3, e3, k3, g1, g2, g3, g4, g5⟩ := yes H1 k e1 e2 (by rw [h1]; rfl)
        refine ⟨.ref fo, rfl, .inl ⟨rfl, _, SqL.of e2⟩, r.2.1, rfl, fo, _, _, rfl, rfl, e2, small1000 (by omega), ?_⟩
        refine ⟨.ref rd, rfl, .inl ⟨rfl, _, SqL.of ((upd_ne rdfo).trans e1)⟩, .ref r.2.2.1, rfl, rd, _, _, _, rfl, rfl, (upd_ne rdfo).trans e1, SqT.of ((k.put hfo fot).same sG gt _ _ (hp.doc r mr)), Nat.le_trans (show _ ≤ 1000 by omega) (by decide), ?_⟩
        rw [← e3]
        exact ⟨_, _, rfl, k3, g1, g2, g3, g4, g5⟩
      | false =>
        refine iffF (by first | rfl | exact h1) ?_
        refine ⟨.ref r.2.2.1, rfl, .ref rd, rfl, r.2.2.1, rd, _, _, rfl, k.tab, SqT.of (s1 _ _ (hp.doc r mr)), .inl (SqL.of e1), fd1, fl, fun H2 tb2 => ⟨_, rfl, ?_⟩⟩
        have k2 := k.trans (.of tb2)
        have e1' : H2 rd = _ := (tb2.2 rd rdt).trans e1
        have e2' : H2 fo = _ := (tb2.2 fo fot).trans e2
        cases h2 : (r.2.2.2.any fun x => inV x (runs ns (rows.take i)).1) with
        | true =>
          refine iffT (by first | rfl | exact h2) ?_
          obtain ⟨H3, e3, k3, g1, g2, g3, g4, g5⟩ := yes H2 k2 e1' e2' (by rw [h1, h2]; rfl)
          refine ⟨.ref fo, rfl, .inl ⟨rfl, _, SqL.of e2'⟩, r.2.1, rfl, fo, _, _, rfl, rfl, e2', small1000 (by omega), ?_⟩
          refine ⟨.ref rd, rfl, .inl ⟨rfl, _, SqL.of ((upd_ne rdfo).trans e1')⟩, .ref r.2.2.1, rfl, rd, _, _, _, rfl, rfl, (upd_ne rdfo).trans e1', SqT.of ((k2.put hfo fot).same sG gt _ _ (hp.doc r mr)), Nat.le_trans (show _ ≤ 1000 by omega) (by decide), ?_⟩
          rw [← e3]
          exact ⟨_, _, rfl, k3, g1, g2, g3, g4, g5⟩
        | false =>
          refine iffF (by first | rfl | exact h2) ?_
          have nn := no (by rw [h1, h2]; rfl)
          refine ⟨_, _, rfl, k2, ?_, ?_, ?_, ?_, ?_⟩
          · rw [nn]
            exact e1'
          · rw [nn]
            exact e2'
          · rw [nn]
            omega
          · rw [nn]
            omega
          · rw [nn]
            exact fl
    · rintro σ H1 ⟨y4, y5, rfl, k, e1, e2, l1, l2, fl⟩
      rw [List.length_map, List.take_length] at e2
      exact ⟨.ref fo, rfl, q H1 fo k hfo e2⟩
def spUp (tb : Addr) (g : List V → List Row → List V) : Sp := fun vs H Q _ => ∃ (F : Hp) (t n : Addr) (rows : List Row) (ns : List V), vs = [.ref t, .ref n] ∧ Same F H ∧ F tb = none ∧ GxR.TabG H tb ∧ HeapIn F t rows ∧ F n = some (.tup ns) ∧ ns.all flatV = true ∧ rows.length ≤ 100 ∧
  ∀ H' l, Tbk tb H H' → H l = none → H' l = some (.tup (g ns rows)) → Q (.ref l) H'
theorem ok_up {f fR tb : Addr} {fd fdR : FuncData} (F : Fun K "up" "up" sUp f fd) (DR : Df K mg "reach" sReach ["actions", "names"] fR fdR) (GR : FnOk P w K mg base CX0 2 fR fdR ["actions", "names"] (spReach tb)) (T : Bl mg) :
    FnOk P w K mg base CX0 3 f fd ["heap", "names"] (spUp tb reachL) := by
  refine F.ok scUp (fun vs H Q E h => ?_) (fun cdv A outer s H vs Q E hr h => ?_)
  · obtain ⟨G, t, n, rows, ns, rfl, _⟩ := h
    rfl
  · obtain ⟨G, t, n, rows, ns, rfl, sG, gt, tab, hp, en, fn, rl, q⟩ := h
    refine ⟨_, (pss_one (ps_ret (pe_callTy call_tuple_of (by rfl) T.tuple (by decide +kernel) (pa_cons (pe_call GR hr (by rfl) DR.g DR.F.kp DR.b .nil pass0 (pa_cons (pv 0) (pa_cons (pv 1) pa_nil))) pa_nil)))), ?_⟩
    refine ⟨.ref t, rfl, .ref n, rfl, G, t, n, rows, ns, rfl, sG, gt, tab, hp, en, fn, rl, fun H1 l k nl el => ?_⟩
    refine ⟨l, _, rfl, .inl ⟨SqL.of el, fun p np => ?_⟩⟩
    have pt := tab_ne k.tab np
    exact q _ p (k.trans (.new k.tab np)) (k.free np pt) upd_same
def downL (ns : List V) (rows : List Row) : List V := (reachL ns rows.reverse).reverse
theorem ok_down {f fR tb : Addr} {fd fdR : FuncData} (F : Fun K "down" "down" sDown f fd) (DR : Df K mg "reach" sReach ["actions", "names"] fR fdR) (GR : FnOk P w K mg base CX0 2 fR fdR ["actions", "names"] (spReach tb)) (T : Bl mg) :
    FnOk P w K mg base CX0 3 f fd ["heap", "names"] (spUp tb downL) := by
  refine F.ok scDown (fun vs H Q E h => ?_) (fun cdv A outer s H vs Q E hr h => ?_)
  · obtain ⟨G, t, n, rows, ns, rfl, _⟩ := h
    rfl
  · obtain ⟨G, t, n, rows, ns, rfl, sG, gt, tab, hp, en, fn, rl, q⟩ := h
    refine ⟨_, (pss_one (ps_ret (pe_callTy call_tuple_of (by rfl) T.tuple (by decide +kernel) (pa_cons (pe_revL (pe_call GR hr (by rfl) DR.g DR.F.kp DR.b .nil pass0 (pa_cons (pe_revT (pv 0)) (pa_cons (pv 1) pa_nil)))) pa_nil)))), ?_⟩
    refine ⟨.ref t, rfl, t, _, rfl, SqT.of (sG _ _ hp.at_), fun b nb => ?_⟩
    have bt := tab_ne tab nb
    have s1 : Same G (upd G b (.tup (rows.map fun r => V.ref r.1).reverse)) := same_upd (sG.free nb)
    have k1 : Tbk tb H _ := .new (o := .tup (rows.map fun r => V.ref r.1).reverse) tab nb
    have sb : Same (upd G b (.tup (rows.map fun r => V.ref r.1).reverse)) (upd H b (.tup (rows.map fun r => V.ref r.1).reverse)) := by
      intro c o e
      by_cases z : c = b
      · subst z
        rw [upd_same] at e ⊢
        exact e
      · rw [upd_ne z] at e ⊢
        exact sG c o e
    refine ⟨.ref n, rfl, _, b, n, rows.reverse, ns, rfl, sb, (upd_ne bt.symm).trans gt, k1.tab, hp.rev s1 upd_same, s1 _ _ en, fn, by rw [List.length_reverse]; exact rl, fun H1 l k nl el => ?_⟩
    have k2 := k1.trans k
    refine ⟨l, _, rfl, SqL.of el, fun p np => ?_⟩
    have pt := tab_ne k.tab np
    have k3 := k2.trans (.new (o := .lst (reachL ns rows.reverse).reverse) k2.tab np)
    refine ⟨p, _, rfl, .inl ⟨SqL.of upd_same, fun p2 np2 => ?_⟩⟩
    have pt2 := tab_ne k3.tab np2
    exact q _ p2 (k3.trans (.new k3.tab np2)) (k3.free np2 pt2) upd_same
theorem run_mem (ns : List V) : ∀ (rows : List Row) (st : List V × List V) (x : V), x ∈ (rows.foldl (step ns) st).2 → x ∈ st.2 ∨ ∃ r ∈ rows, x = r.2.1
  | [], st, x, h => .inl h
  | r :: rs, st, x, h => by
    rw [List.foldl_cons] at h
    rcases run_mem ns rs _ x h with h | ⟨r', m, e⟩
    · unfold step at h
      split at h
      · rcases List.mem_append.mp h with h | h
        · exact .inl h
        · exact .inr ⟨r, List.mem_cons_self, List.mem_singleton.mp h⟩
      · exact .inl h
    · exact .inr ⟨r', List.mem_cons_of_mem _ m, e⟩
theorem reach_mem {ns : List V} {rows : List Row} {x : V} (h : x ∈ reachL ns rows) : ∃ r ∈ rows, x = r.2.1 := by
  rcases run_mem ns rows _ x h with h | h
  · cases h
  · exact h
end
/-- names and documents are texts, names differ -/
structure Texts (rows : List Row) (zs : List Str) : Prop where
  nms : rows.map (fun r => r.2.1) = zs.map V.str
  nd : zs.Nodup
  sub : ∀ r ∈ rows, r.2.2.2.Sublist docs8
  inn : ∀ z ∈ zs, z ∈ pool 40
theorem str_inj : Function.Injective V.str := fun a b e => V.str.inj e
theorem inj_of {α β : Type} {f : α → β} : ∀ {l : List α} {a b : α}, (l.map f).Nodup → a ∈ l → b ∈ l → f a = f b → a = b
  | x :: l, a, b, nd, ma, mb, e => by
    rw [List.map_cons] at nd
    have out := (List.nodup_cons.mp nd).1
    have nd' := (List.nodup_cons.mp nd).2
    rcases List.mem_cons.mp ma with e1 | m1
    · rcases List.mem_cons.mp mb with e2 | m2
      · rw [e1, e2]
      · rw [← e1, e] at out
        exact absurd (List.mem_map_of_mem m2) out
    · rcases List.mem_cons.mp mb with e2 | m2
      · rw [← e2, ← e] at out
        exact absurd (List.mem_map_of_mem m1) out
      · exact inj_of nd' m1 m2 e
theorem Texts.nmnd {rows : List Row} {zs : List Str} (h : Texts rows zs) : (rows.map fun r => r.2.1).Nodup := by
  rw [h.nms]
  exact List.pairwise_map.mpr (List.Pairwise.imp (fun ne e => ne (str_inj e)) h.nd)
theorem Texts.rnd {rows : List Row} {zs : List Str} (h : Texts rows zs) : rows.Nodup := List.Pairwise.imp (fun ne e => ne (by rw [e])) (List.pairwise_map.mp h.nmnd)
theorem Texts.one {rows : List Row} {zs : List Str} (h : Texts rows zs) {r r' : Row} (m : r ∈ rows) (m' : r' ∈ rows) (e : r.2.1 = r'.2.1) : r = r' := inj_of h.nmnd m m' e
theorem Texts.str {rows : List Row} {zs : List Str} (h : Texts rows zs) {r : Row} (m : r ∈ rows) : ∃ z ∈ zs, r.2.1 = .str z := by
  have : r.2.1 ∈ zs.map V.str := by
    rw [← h.nms]
    exact List.mem_map_of_mem m
  obtain ⟨z, mz, e⟩ := List.mem_map.mp this
  exact ⟨z, mz, e.symm⟩
theorem Texts.rev {rows : List Row} {zs : List Str} (h : Texts rows zs) : Texts rows.reverse zs.reverse :=
  ⟨by rw [List.map_reverse, List.map_reverse, h.nms], List.pairwise_reverse.mpr (List.Pairwise.imp (fun ne e => ne e.symm) h.nd), fun r m => h.sub r (List.mem_reverse.mp m), fun z m => h.inn z (List.mem_reverse.mp m)⟩
theorem in_str {z : Str} : ∀ {xs : List V}, (∀ v ∈ xs, ∃ s, v = .str s) → (inV (.str z) xs = true ↔ V.str z ∈ xs) := by
  intro xs h
  unfold inV
  rw [List.any_eq_true]
  constructor
  · rintro ⟨v, m, e⟩
    obtain ⟨s, rfl⟩ := h v m
    have : s = z := by simpa [eqV] using e
    rw [← this]
    exact m
  · intro m
    exact ⟨_, m, by simp [eqV]⟩
theorem meets_comm {rows : List Row} {zs : List Str} (h : Texts rows zs) {r r' : Row} (m : r ∈ rows) (m' : r' ∈ rows) : meets r r' = meets r' r := by
  have st : ∀ r ∈ rows, ∀ v ∈ r.2.2.2, ∃ s, v = .str s := by
    intro r m v mv
    have e : ∀ v ∈ docs8, ∃ s, v = .str s := by
      intro v mv
      unfold docs8 at mv
      simp only [List.mem_cons, List.not_mem_nil, or_false] at mv
      rcases mv with rfl | rfl | rfl | rfl | rfl | rfl | rfl | rfl <;> exact ⟨_, rfl⟩
    exact e v ((h.sub r m).subset mv)
  have half : ∀ r r', r ∈ rows → r' ∈ rows → meets r r' = true → meets r' r = true := by
    intro r r' m m' e
    obtain ⟨x, mx, e⟩ := List.any_eq_true.mp e
    obtain ⟨s, rfl⟩ := st r m x mx
    have y := (in_str (st r' m')).mp e
    exact List.any_eq_true.mpr ⟨_, y, (in_str (st r m)).mpr mx⟩
  rw [Bool.eq_iff_iff]
  exact ⟨half r r' m m', half r' r m' m⟩
theorem by_name {rows : List Row} {zs : List Str} (h : Texts rows zs) {r : Row} (m : r ∈ rows) (ns : List Str) : byName (ns.map V.str) r = true ↔ ∃ z ∈ ns, r.2.1 = .str z := by
  obtain ⟨z, _, e⟩ := h.str m
  unfold byName
  rw [e, in_str (fun v mv => by obtain ⟨s, _, rfl⟩ := List.mem_map.mp mv; exact ⟨s, rfl⟩)]
  constructor
  · intro mz
    obtain ⟨s, ms, es⟩ := List.mem_map.mp mz
    exact ⟨s, ms, es.symm⟩
  · rintro ⟨s, ms, es⟩
    rw [es]
    exact List.mem_map_of_mem ms
theorem reach_in {rows : List Row} {zs : List Str} (h : Texts rows zs) (ns : List Str) (o : Str) : inV (.str o) (reachL (ns.map V.str) rows) = true ↔ ∃ r r' : Row, (∃ z ∈ ns, r.2.1 = .str z) ∧ r'.2.1 = .str o ∧ Path meets rows r r' := by
  rw [reach_pick, in_str]
  · constructor
    · intro m
      obtain ⟨r', mr, e⟩ := List.mem_map.mp m
      obtain ⟨r, pr, hp⟩ := (mem_pick _ _ _ _).mp mr
      exact ⟨r, r', (by_name h (path_mem hp).1 ns).mp pr, e, hp⟩
    · rintro ⟨r, r', hr, e, hp⟩
      rw [← e]
      exact List.mem_map_of_mem ((mem_pick _ _ _ _).mpr ⟨r, (by_name h (path_mem hp).1 ns).mpr hr, hp⟩)
  · intro v m
    obtain ⟨r', mr, rfl⟩ := List.mem_map.mp m
    obtain ⟨z, _, e⟩ := h.str ((pick_sub _ _ _).subset mr)
    exact ⟨z, e⟩
theorem path_flip {rows : List Row} {zs : List Str} (h : Texts rows zs) {l : List Row} (sub : ∀ r ∈ l, r ∈ rows) {x y : Row} (p : Path (fun a b => meets b a) l x y) : Path meets l x y := by
  induction p with
  | here l r => exact .here l r
  | next r hp e ih =>
    refine .next r (ih fun r m => sub r (List.mem_append_left _ m)) ?_
    rw [meets_comm h (sub r (List.mem_append_right _ (List.mem_singleton.mpr rfl))) (sub _ (List.mem_append_left _ (path_mem hp).2))]
    exact e
  | keep r hp ih => exact .keep r (ih fun r m => sub r (List.mem_append_left _ m))
section
variable {α : Type}
theorem path_self {t : α → α → Bool} {l : List α} {x : α} (m : x ∈ l) : Path t l x x := by
  obtain ⟨a, b, e⟩ := List.append_of_mem m
  rw [e]
  clear e m
  induction b using snoc_ind with
  | h0 => exact .here a x
  | h1 b r ih =>
    rw [show a ++ x :: (b ++ [r]) = (a ++ x :: b) ++ [r] by simp]
    exact .keep r ih
end
theorem Texts.pool {rows : List Row} {zs : List Str} (h : Texts rows zs) (ns : List V) : ∀ v ∈ reachL ns rows, ∃ z, v = .str z ∧ z ∈ Cu.pool 40 := by
  intro v m
  obtain ⟨r, mr, rfl⟩ := reach_mem m
  obtain ⟨z, mz, e⟩ := h.str mr
  exact ⟨z, e, h.inn z mz⟩
theorem cut_all {xs : List V} {lo hi : Option Int} (h : HT.sIx xs.length 0 lo = 0 ∧ HT.sIx xs.length xs.length hi = xs.length) : cutV xs lo hi = xs := by
  unfold cutV
  rw [h.1, h.2, List.drop_zero, Nat.sub_zero, List.take_length]
theorem mem_map_str {z : Str} {l : List Str} : V.str z ∈ l.map V.str ↔ z ∈ l :=
  ⟨fun m => by
    obtain ⟨s, ms, e⟩ := List.mem_map.mp m
    rw [← V.str.inj e]
    exact ms, fun m => List.mem_map_of_mem m⟩
section
variable {α : Type}
theorem path_more {t : α → α → Bool} {l : List α} {x y : α} (h : Path t l x y) (m : List α) : Path t (l ++ m) x y := by
  induction m using snoc_ind with
  | h0 => rw [List.append_nil]; exact h
  | h1 m r ih =>
    rw [← List.append_assoc]
    exact .keep r ih
theorem path_less {t : α → α → Bool} {l : List α} {x y : α} (my : y ∈ l) : ∀ {m : List α}, (l ++ m).Nodup → Path t (l ++ m) x y → Path t l x y := by
  intro m
  induction m using snoc_ind with
  | h0 =>
    intro _ h
    rw [List.append_nil] at h
    exact h
  | h1 m r ih =>
    intro nd h
    rw [← List.append_assoc] at nd h
    have out : y ≠ r := by
      rintro rfl
      exact (List.nodup_append.mp nd).2.2 y (List.mem_append_left _ my) y (List.mem_singleton.mpr rfl) rfl
    rcases path_snoc h with ⟨_, z⟩ | ⟨z, _⟩ | z
    · exact absurd z out
    · exact absurd z out
    · exact ih (List.nodup_append.mp nd).1 z
theorem path_step {t : α → α → Bool} {l m : List α} {r x : α} (nd : (l ++ r :: m).Nodup) (ne : x ≠ r) : Path t (l ++ r :: m) x r ↔ ∃ w ∈ l, t r w = true ∧ Path t (l ++ r :: m) x w := by
  have e : l ++ r :: m = (l ++ [r]) ++ m := by simp
  have out : r ∉ l := fun z => (List.nodup_append.mp nd).2.2 r z r List.mem_cons_self rfl
  constructor
  · intro h
    rw [e] at nd h
    rcases path_snoc (path_less (by simp) nd h) with ⟨z, _⟩ | ⟨_, w, hw, tw⟩ | z
    · exact absurd z ne
    · refine ⟨w, (path_mem hw).2, tw, ?_⟩
      rw [e]
      exact path_more (path_more hw [r]) m
    · exact absurd (path_mem z).2 out
  · rintro ⟨w, mw, tw, h⟩
    have hl := path_less mw nd h
    rw [e]
    exact path_more (.next r hl tw) m
end
/-- o: the names strictly below r -/
structure Below (rows : List Row) (r : Row) (o : List Str) : Prop where
  nd : o.Nodup
  mem : ∀ z, z ∈ o ↔ ∃ x ∈ rows, x.2.1 = .str z ∧ x ≠ r ∧ Path meets rows x r
theorem Below.inn {rows : List Row} {zs : List Str} {r : Row} {o : List Str} (h : Below rows r o) (tx : Texts rows zs) {z : Str} (m : z ∈ o) : z ∈ zs := by
  obtain ⟨x, mx, ex, _⟩ := (h.mem z).mp m
  obtain ⟨s, ms, es⟩ := tx.str mx
  rw [V.str.inj (ex.symm.trans es)]
  exact ms
abbrev Ent := Str × Addr × List Str
def entK (e : Ent) : Key × V := (Sum.inr e.1, V.ref e.2.1)
theorem ent_get : ∀ {es : List Ent} {z : Str} {j : Nat} {e : Ent}, (es.map fun e => e.1).Nodup → es[j]? = some e → e.1 = z → valV (es.map entK) (Sum.inr z) = some (V.ref e.2.1)
  | x :: es, z, 0, e, _, h, hz => by
    cases h
    exact valV_pos (p := entK _) (by show Sum.inr _ = Sum.inr _; rw [hz])
  | x :: es, z, j + 1, e, nd, h, hz => by
    have nd' := List.nodup_cons.mp nd
    have ne : x.1 ≠ z := by
      rintro rfl
      exact nd'.1 (List.mem_map.mpr ⟨e, List.mem_of_getElem? h, hz⟩)
    rw [List.map_cons, valV_neg (p := entK x) (by intro c; exact ne (Sum.inr.inj c))]
    exact ent_get nd'.2 h hz
theorem ent_put {es : List Ent} {z : Str} {v : V} (h : z ∉ es.map fun e => e.1) : putK (es.map entK) (Sum.inr z) v = es.map entK ++ [(Sum.inr z, v)] := by
  unfold putK
  rw [if_neg]
  intro c
  obtain ⟨kv, m, e⟩ := List.any_eq_true.mp c
  obtain ⟨x, mx, rfl⟩ := List.mem_map.mp m
  exact h (List.mem_map.mpr ⟨x, mx, Sum.inr.inj (of_decide_eq_true e)⟩)
theorem cut_take (xs : List V) (i : Nat) : cutV xs none (some (i : Int)) = xs.take i := by
  have e1 : HT.sIx xs.length 0 none = 0 := rfl
  have e2 : HT.sIx xs.length xs.length (some (i : Int)) = min i xs.length := by
    show (if (i : Int) < 0 then ((i : Int) + xs.length).toNat else min (i : Int).toNat xs.length) = _
    rw [if_neg (by omega), Int.toNat_natCast]
  unfold cutV
  rw [e1, e2, List.drop_zero, Nat.sub_zero]
  by_cases h : i ≤ xs.length
  · rw [Nat.min_eq_left h]
  · rw [Nat.min_eq_right (by omega), List.take_length, List.take_of_length_le (by omega)]
theorem cut_to {K : PySem.W.Frag} {l : Addr} {H : Hp} {xs : List V} {i : Nat} {Q : VK} (e : H l = some (.tup xs))
    (q : ∀ H' v, Same H H' → H' v = some (.tup (xs.take i)) → Q (.ref v) H') : rSlA K (.ref l) none (some (i : Int)) H Q := by
  refine ⟨l, xs, rfl, SqT.of e, fun hw => ?_, fun _ p n => ?_⟩
  · refine q H l (Same.refl _) ?_
    rw [← cut_take, cut_all hw]
    exact e
  · refine q _ p (same_upd n) ?_
    rw [← cut_take]
    exact upd_same
abbrev sOr : Stmt := topS 23
abbrev nOr : List Str := ["_law_heap_here", "_law_found", "_law_at", "_law_action", "_law_below", "_law_other", "_law_shared", "_law_document"]
theorem scOr : FnScope nOr ["_law_heap_here"] (defScope sOr) := ⟨rfl, rfl, rfl, by decide +kernel, rfl, by decide +kernel, by decide +kernel⟩
/-- the order so far: one entry for each of the first i -/
structure OrdTo (H1 : Hp) (d : Addr) (rows : List Row) (zs : List Str) (i : Nat) (es : List Ent) : Prop where
  at_ : H1 d = some (.dK (es.map entK))
  nms : es.map (fun e => e.1) = zs.take i
  lst : ∀ e ∈ es, H1 e.2.1 = some (.lst (e.2.2.map V.str))
  bel : ∀ (j : Nat) (e : Ent) (r : Row), es[j]? = some e → rows[j]? = some r → Below rows r e.2.2
theorem OrdTo.keep {H1 H2 : Hp} {d : Addr} {rows : List Row} {zs : List Str} {i : Nat} {es : List Ent} (o : OrdTo H1 d rows zs i es) (s : Same H1 H2) : OrdTo H2 d rows zs i es :=
  ⟨s _ _ o.at_, o.nms, fun e m => s _ _ (o.lst e m), o.bel⟩
section
variable {P : Program} {w : World} {K : PySem.W.Frag} {mg : Str → Option Value} {base : Heap}
def spOr : Sp := fun vs H Q _ => ∃ (F : Hp) (t : Addr) (rows : List Row) (zs : List Str), vs = [.ref t] ∧ Same F H ∧ HeapIn F t rows ∧ rows.length ≤ 40 ∧ Texts rows zs ∧
  ∀ H' d es, Same H H' → OrdTo H' d rows zs rows.length es → H d = none → (∀ e ∈ es, H e.2.1 = none) → Q (.ref d) H'
theorem ok_order {f : Addr} {fd : FuncData} {k : Nat} (F : Fun K "_law_order" "_law_order" sOr f fd) (T : Bl mg) : FnOk P w K mg base CX0 (k + 1) f fd ["_law_heap_here"] spOr := by
  refine F.ok scOr (fun vs H Q E h => ?_) (fun cdv A outer s H vs Q E hr h => ?_)
  · obtain ⟨G, t, rows, zs, rfl, _⟩ := h
    rfl
  · obtain ⟨G, t, rows, zs, rfl, sG, hp, rl, tx, q⟩ := h
    have hu := hu_of hr
    refine ⟨_, (pss_cons (ps_set (i := 1) scOr.nd rfl (.inl rfl) pe_dnewK)
  (pss_cons (ps_for PassesOwn.never rfl (pi_enumT (by rfl) T.enumerate (pa_cons (pv 0) pa_nil)) (pg_tup rfl (pgs_cons (pg_name (i := 2) scOr.nd rfl (.inl rfl)) (pgs_cons (pg_name (i := 3) scOr.nd rfl (.inl rfl)) pgs_nil)))
  (pss_cons (ps_set (i := 4) scOr.nd rfl (.inl rfl) (pe_lst pa_nil))
  (pss_cons (ps_for PassesOwn.never rfl (pi_tup (pe_slice sl_tupA (pv 0) po_none (po_some (pv 2)))) (pg_tup rfl (pgs_cons (pg_name (i := 5) scOr.nd rfl (.inl rfl)) (pgs_cons (pg_name (i := 6) scOr.nd rfl (.inr rfl)) pgs_nil)))
  (pss_one (ps_if (pt_val (pe_callB (cr_any rfl) (by rfl) T.any (by decide +kernel) (pa_cons (pe_lc (own := [("_law_document", 7)]) (g := gName 7) (tt := tYes) rfl scOr.nd (pi_tup (pe_ix ix_tup (pv 3) pe_int (fun _ _ => rfl))) (blkOk_by (own := [("_law_document", 7)]) (N := nOr) (sc := defScope sOr) (by decide +kernel)) (fun _ _ _ _ _ => (pg_name (i := 7) scOr.nd rfl (.inl rfl))) (fun _ _ _ _ _ => pts_nil) (fun _ _ _ _ _ => (pe_cmpR (show OpR _ (compareOp .In) (rIn K false) from op_in_seq) (pv 7) (pv 6) (by rfl)))) pa_nil)))
  (pss_one (ps_set (i := 4) scOr.nd rfl (.inl rfl) (pe_op op_cat (pe_op op_cat (pv 4) (pe_lst (pa_cons (pv 5) pa_nil))) (pe_dget hu (pv 1) (pv 5) (fun _ _ => rfl)))))
  pss_nil)))
  (pss_one (ps_dput hu (pv 1) (pe_ix ix_tup (pv 3) pe_int (fun _ _ => rfl)) (pe_callB (call_sortX rfl) (by rfl) T.sorted (by decide +kernel) (pa_cons (pe_callTy (call_setX rfl) (by rfl) T.set (by decide +kernel) (pa_cons (pv 4) pa_nil)) pa_nil)) rfl)))))
  (pss_one (ps_ret (pv 1))))), ?_⟩
    refine fun d nd => ?_
    have zl : zs.length = rows.length := by
      have := congrArg List.length tx.nms
      rw [List.length_map, List.length_map] at this
      exact this.symm
    have dG : ∀ b o, G b = some o → b ≠ d := fun b o e => ne_of_none (sG _ _ e) nd
    refine ⟨.ref t, rfl, t, _, rfl, SqT.of ((sG.trans (same_upd nd)) _ _ hp.at_), ?_⟩
    refine for_it (walk_enumT (K := K) (a := t) (xs := rows.map fun r => V.ref r.1)) (fun i σ H1 => ∃ y2 y3 y4 y5 y6 y7 es, σ = [some (.ref t), some (.ref d), y2, y3, y4, y5, y6, y7] ∧ Same H H1 ∧ OrdTo H1 d rows zs i es ∧ ∀ e ∈ es, H e.2.1 = none) ?_ ?_ ?_ ?_
    · exact ⟨_, _, _, _, _, _, [], rfl, same_upd nd, ⟨upd_same, rfl, (fun _ m => nomatch m), fun j e r h => by cases h⟩, (fun _ m => nomatch m)⟩
    · rintro i σ H1 _ ⟨_, _, _, _, _, _, _, _, s1, _, _⟩
      exact SqT.of ((sG.trans s1) _ _ hp.at_)
    · rintro i v σ H1 H2 lt ⟨y2, y3, y4, y5, y6, y7, es, rfl, s1, od, fre⟩ ⟨tt, a1, b1, rfl, ntt, rfl, ea, eb⟩
      cases ea
      have eb : (rows.map fun r => V.ref r.1)[i]? = some b1 := eb
      rw [List.getElem?_map] at eb
      obtain ⟨r, hr1, rfl⟩ := Option.map_eq_some_iff.mp eb
      rw [List.length_map] at lt
      have mr := List.mem_of_getElem? hr1
      have s2 : Same H _ := s1.trans (same_upd (o := .tup [V.int (i : Nat), .ref r.1]) ntt)
      have od2 := od.keep (same_upd (o := .tup [V.int (i : Nat), .ref r.1]) ntt)
      refine ⟨tt, _, rfl, SqT.of upd_same, rfl, _, _, rfl, _, _, rfl, rfl, ?_⟩
      generalize upd H1 tt (.tup [V.int (i : Nat), .ref r.1]) = H2 at s2 od2 ⊢
      have el : es.length = i := by
        have := congrArg List.length od2.nms
        rw [List.length_map, List.length_take] at this
        omega
      have znd := tx.nd
      have end_ : (es.map fun e => e.1).Nodup := by
        rw [od2.nms]
        exact znd.sublist (List.take_sublist _ _)
      have elen : ∀ e ∈ es, e.2.2.length ≤ 40 := by
        intro e me
        obtain ⟨j, hj⟩ := List.getElem?_of_mem me
        have jl : j < rows.length := by
          have := (List.getElem?_eq_some_iff.mp hj).1
          omega
        have b := od2.bel j e rows[j] hj (List.getElem?_eq_getElem jl)
        have := nodup_len b.nd fun z m => b.inn tx m
        omega
      refine ⟨by show 0 ≤ sizeLine; decide, fun bl nbl => ?_⟩
      have s3 : Same H _ := s2.trans (same_upd (o := .lst []) nbl)
      have od3 := od2.keep (same_upd (o := .lst []) nbl)
      have e3 : (upd H2 bl (.lst [])) bl = some (.lst []) := upd_same
      generalize upd H2 bl (.lst []) = H3 at s3 od3 e3 ⊢
      refine ⟨.ref t, rfl, .int (i : Nat), rfl, (i : Int), rfl, cut_to ((sG.trans s3) _ _ hp.at_) fun H4 sl s34 e4 => ?_⟩
      have s4 := s3.trans s34
      have od4 := od3.keep s34
      have eb4 := s34 _ _ e3
      rw [← List.map_take] at e4
      refine ⟨sl, rfl, ⟨_, SqT.of e4⟩, ?_⟩
      refine for_tup (K := K) (a := sl) (xs := (rows.take i).map fun r => V.ref r.1) (fun m σ H5 => ∃ (y5 y6 y7 : Option V) (bl : Addr) (bs : List Str), σ = [some (.ref t), some (.ref d), some (.int (i : Nat)), some (.ref r.1), some (.ref bl), y5, y6, y7] ∧ Same H4 H5 ∧ H5 bl = some (.lst (bs.map V.str)) ∧ bs.length ≤ 41 * m ∧
        (∀ z, z ∈ bs ↔ ∃ w ∈ rows.take m, meets r w = true ∧ ∃ x ∈ rows, x.2.1 = .str z ∧ Path meets rows x w)) ?_ ?_ ?_ ?_
      · exact ⟨_, _, _, bl, [], rfl, Same.refl _, eb4, Nat.zero_le _, fun z => by simp⟩
      · rintro m σ H5 _ ⟨_, _, _, _, _, _, s5, _⟩
        exact SqT.of (s5 _ _ e4)
      · rintro m x σ H5 hx ⟨x5, x6, x7, bl5, bs, rfl, s5, e5, l5, m5⟩
        rw [List.getElem?_map] at hx
        obtain ⟨r', hr', rfl⟩ := Option.map_eq_some_iff.mp hx
        have mi : m < i := by
          have := (List.getElem?_eq_some_iff.mp hr').1
          rw [List.length_take] at this
          omega
        have hr2 : rows[m]? = some r' := by
          rw [List.getElem?_take, if_pos mi] at hr'
          exact hr'
        have mr' := List.mem_of_getElem? hr2
        have g5 := sG.trans (s4.trans s5)
        refine ⟨r'.1, _, rfl, SqT.of (g5 _ _ (hp.row r' mr')), rfl, _, _, rfl, _, _, rfl, rfl, ?_⟩
        -- does it meet?
        refine ⟨.ref r.1, rfl, r.1, _, 1, .ref r.2.2.1, rfl, rfl, SqT.of (g5 _ _ (hp.row r mr)), rfl, r.2.2.1, rfl, ⟨_, SqT.of (g5 _ _ (hp.doc r mr))⟩, fun D nD => ?_⟩
        have dD : r.2.2.1 ≠ D := ne_of_none (g5 _ _ (hp.doc r mr)) nD
        have dD' : r'.2.2.1 ≠ D := ne_of_none (g5 _ _ (hp.doc r' mr')) nD
        refine lc_tup (K := K) (a := r.2.2.1) (xs := r.2.2.2) (fun j H6 => H6 = upd H5 D (.lst (((r.2.2.2.take j).map fun x => inV x r'.2.2.2).map V.bl))) rfl ?_ ?_ ?_
        · rintro j H6 _ rfl
          exact SqT.of ((upd_ne dD).trans (g5 _ _ (hp.doc r mr)))
        · rintro j u H6 hu2 rfl
          have fu : flatV u = true := List.all_eq_true.mp (hp.flat r mr).1 u (List.mem_of_getElem? hu2)
          refine ⟨rfl, lc_yes ⟨u, rfl, .ref r'.2.2.1, rfl, r'.2.2.1, _, rfl, .inr (SqT.of ((upd_ne dD').trans (g5 _ _ (hp.doc r' mr')))), fu, (hp.flat r' mr').1, ?_⟩⟩
          refine ⟨_, upd_same, ?_, ?_⟩
          · rw [List.length_map, List.length_map, List.length_take]
            have := hp.few r mr
            exact small1000 (by omega)
          · rw [upd_upd, List.take_add_one, hu2, List.map_append, List.map_append]
            rfl
        · rintro H6 rfl
          rw [List.take_length]
          refine ⟨D, _, rfl, SqL.of upd_same, _, rfl, ?_⟩
          have ev : ((r.2.2.2.map fun x => inV x r'.2.2.2).any id) = meets r r' := by
            unfold meets
            rw [List.any_map]
            rfl
          have s6 : Same H4 _ := s5.trans (same_upd (o := .lst ((r.2.2.2.map fun x => inV x r'.2.2.2).map V.bl)) nD)
          have e6 := same_upd (o := .lst ((r.2.2.2.map fun x => inV x r'.2.2.2).map V.bl)) nD _ _ e5
          rw [ev]
          generalize upd H5 D (.lst ((r.2.2.2.map fun x => inV x r'.2.2.2).map V.bl)) = H6 at s6 e6 ⊢
          have tk : rows.take (m + 1) = rows.take m ++ [r'] := by
            rw [List.take_add_one, hr2]
            rfl
          cases hm : meets r r' with
          | false =>
            refine iffF rfl ?_
            refine ⟨_, _, _, bl5, bs, rfl, s6, e6, by omega, fun z => ?_⟩
            rw [m5 z, tk]
            constructor
            · rintro ⟨w, mw, h⟩
              exact ⟨w, List.mem_append_left _ mw, h⟩
            · rintro ⟨w, mw, hw, h⟩
              rcases List.mem_append.mp mw with mw | mw
              · exact ⟨w, mw, hw, h⟩
              · rw [List.mem_singleton.mp mw, hm] at hw
                cases hw
          | true =>
            refine iffT rfl ?_
            obtain ⟨z', mz', ez'⟩ := tx.str mr'
            obtain ⟨e, he⟩ : ∃ e, es[m]? = some e := ⟨es[m]'(by omega), List.getElem?_eq_getElem (by omega)⟩
            have me := List.mem_of_getElem? he
            have ename : e.1 = z' := by
              have h1 : (es.map fun e => e.1)[m]? = some e.1 := by rw [List.getElem?_map, he]; rfl
              rw [od2.nms, List.getElem?_take, if_pos mi] at h1
              have h2 : (zs.map V.str)[m]? = some (V.str z') := by rw [← tx.nms, List.getElem?_map, hr2, ← ez']; rfl
              rw [List.getElem?_map, h1] at h2
              exact V.str.inj (Option.some.inj h2)
            have od6 := od4.keep s6
            have bw := od2.bel m e r' he hr2
            have le40 := elen e me
            refine ⟨.ref bl5, rfl, r'.2.1, rfl, by show 1 ≤ sizeLine; decide, fun l1 n1 => ⟨bl5, l1, _, _, rfl, rfl, same_upd n1 _ _ e6, upd_same, ?_, fun l2 n2 => ?_⟩⟩
            · rw [List.length_map]
              exact Nat.le_trans (show bs.length + 1 ≤ 2000 by omega) (by decide)
            have s7 := (same_upd (o := .lst [r'.2.1]) n1).trans (same_upd (o := .lst (bs.map V.str ++ [r'.2.1])) n2)
            have od7 := od6.keep s7
            refine ⟨.ref d, rfl, r'.2.1, rfl, d, .ref e.2.1, rfl, ?_, l2, e.2.1, _, _, rfl, rfl, upd_same, od7.lst e me, ?_, fun l3 n3 => ?_⟩
            · have g := DGet.k (k := Sum.inr z') od7.at_
              rw [ent_get end_ he ename, show (kV (Sum.inr z') : V) = r'.2.1 from ez'.symm] at g
              exact g
            · rw [List.length_append, List.length_map, List.length_map]
              exact Nat.le_trans (show bs.length + 1 + e.2.2.length ≤ 2000 by omega) (by decide)
            refine ⟨_, _, _, l3, bs ++ [z'] ++ e.2.2, rfl, (s6.trans s7).trans (same_upd n3), ?_, ?_, fun z => ?_⟩
            · rw [upd_same, List.map_append, List.map_append, ez']
              rfl
            · rw [List.length_append, List.length_append]
              show bs.length + 1 + e.2.2.length ≤ _
              omega
            · rw [List.mem_append, List.mem_append, m5 z, tk]
              constructor
              · rintro ((⟨w, mw, h⟩ | h) | h)
                · exact ⟨w, List.mem_append_left _ mw, h⟩
                · rw [List.mem_singleton.mp h]
                  exact ⟨r', by simp, hm, r', mr', ez', path_self mr'⟩
                · obtain ⟨x, mx, ex, _, px⟩ := (bw.mem z).mp h
                  exact ⟨r', by simp, hm, x, mx, ex, px⟩
              · rintro ⟨w, mw, hw, x, mx, ex, px⟩
                rcases List.mem_append.mp mw with mw | mw
                · exact .inl (.inl ⟨w, mw, hw, x, mx, ex, px⟩)
                · obtain rfl := List.mem_singleton.mp mw
                  by_cases xe : x = w
                  · rw [xe, ez'] at ex
                    exact .inl (.inr (List.mem_singleton.mpr (V.str.inj ex).symm))
                  · exact .inr ((bw.mem z).mpr ⟨x, mx, ex, xe, px⟩)
      · rintro σ H5 ⟨x5, x6, x7, bl5, bs, rfl, s5, e5, l5, m5⟩
        have ti : ((rows.take i).map fun r => V.ref r.1).length = i := by
          rw [List.length_map, List.length_take]
          omega
        rw [ti] at l5 m5
        have g5 := sG.trans (s4.trans s5)
        obtain ⟨z, mz, ez⟩ := tx.str mr
        -- what is strictly below
        have split : rows = rows.take i ++ r :: rows.drop (i + 1) := by
          have := List.take_append_drop i rows
          rw [List.drop_eq_getElem_cons (show i < rows.length from lt)] at this
          have er : rows[i] = r := (List.getElem?_eq_some_iff.mp hr1).2
          rw [er] at this
          exact this.symm
        have bel : ∀ y, y ∈ bs ↔ ∃ x ∈ rows, x.2.1 = .str y ∧ x ≠ r ∧ Path meets rows x r := by
          intro y
          rw [m5 y]
          have rnd := tx.rnd
          constructor
          · rintro ⟨w, mw, hw, x, mx, ex, px⟩
            have xl : x ≠ r := by
              rintro rfl
              rw [split] at rnd px
              have := path_less mw rnd px
              exact (List.nodup_append.mp rnd).2.2 x (path_mem this).1 x List.mem_cons_self rfl
            refine ⟨x, mx, ex, xl, ?_⟩
            have st := path_step (t := meets) (l := rows.take i) (m := rows.drop (i + 1)) (r := r) (x := x) (by rw [← split]; exact rnd) xl
            rw [← split] at st
            exact st.mpr ⟨w, mw, hw, px⟩
          · rintro ⟨x, mx, ex, xl, px⟩
            have st := path_step (t := meets) (l := rows.take i) (m := rows.drop (i + 1)) (r := r) (x := x) (by rw [← split]; exact rnd) xl
            rw [← split] at st
            obtain ⟨w, mw, hw, pw⟩ := st.mp px
            exact ⟨w, mw, hw, x, mx, ex, pw⟩
        have bin : ∀ y ∈ bs, y ∈ zs := by
          intro y my
          obtain ⟨x, mx, ex, _⟩ := (bel y).mp my
          obtain ⟨s', ms, es'⟩ := tx.str mx
          rw [V.str.inj (ex.symm.trans es')]
          exact ms
        refine ⟨.ref bl5, rfl, bl5, bs, rfl, .inl (SqL.of e5), by omega, fun s1' n1' ns1 _ _ => ?_⟩
        refine ⟨s1', _, _, rfl, upd_same, fun ks knd kin => ?_, fun ys p ynd _ ymem _ np => ?_⟩
        · have := nodup_len knd fun y my => bin y (of_decide_eq_true (kin y my))
          omega
        have s6 := (same_upd (o := SetXO w s1' (fun k => decide (k ∈ bs)) n1') ns1).trans (same_upd (o := .lst (ys.map V.str)) np)
        have od6 := (od4.keep s5).keep s6
        have g6 := g5.trans s6
        have dp := DPut.k (k := Sum.inr z) (v := V.ref p) od6.at_ (by rw [List.length_map]; exact small1000 (by omega))
        rw [show (kV (Sum.inr z) : V) = r.2.1 from ez.symm] at dp
        refine ⟨.ref d, rfl, .ref r.1, rfl, r.1, _, 0, r.2.1, rfl, rfl, SqT.of (g6 _ _ (hp.row r mr)), rfl, d, _, rfl, dp, ?_⟩
        · have fresh : z ∉ es.map fun e => e.1 := by
            rw [od2.nms]
            intro m
            have h2 : (zs.map V.str)[i]? = some (V.str z) := by rw [← tx.nms, List.getElem?_map, hr1, ← ez]; rfl
            rw [List.getElem?_map] at h2
            obtain ⟨z2, hz2, e2⟩ := Option.map_eq_some_iff.mp h2
            rw [V.str.inj e2] at hz2
            have md : z ∈ zs.drop i := List.mem_of_getElem? (i := 0) (by rw [List.getElem?_drop]; exact hz2)
            rw [← List.take_append_drop i zs] at znd
            exact (List.nodup_append.mp znd).2.2 z m z md rfl
          rw [ent_put fresh]
          have dn : ∀ b o, H b = some o → b ≠ d := fun b o e => ne_of_none e nd
          refine ⟨_, _, _, _, _, _, es ++ [(z, p, ys)], rfl, ?_, ⟨?_, ?_, ?_, ?_⟩, ?_⟩
          · intro b o e
            rw [upd_ne (dn b o e)]
            exact (s4.trans s5).trans s6 b o e
          · rw [upd_same, List.map_append]
            rfl
          · rw [List.map_append, od2.nms, List.take_add_one]
            have h2 : (zs.map V.str)[i]? = some (V.str z) := by rw [← tx.nms, List.getElem?_map, hr1, ← ez]; rfl
            rw [List.getElem?_map] at h2
            obtain ⟨z2, hz2, e2⟩ := Option.map_eq_some_iff.mp h2
            rw [hz2, V.str.inj e2]
            rfl
          · intro e me
            rcases List.mem_append.mp me with m | m
            · have := od6.lst e m
              rw [upd_ne (fun c => by rw [c, od6.at_] at this; cases this)]
              exact this
            · rw [List.mem_singleton.mp m, upd_ne]
              · exact upd_same
              · intro c
                have ed := ((od4.keep s5).keep (same_upd (o := SetXO w s1' (fun k => decide (k ∈ bs)) n1') ns1)).at_
                have np' : (upd H5 s1' (SetXO w s1' (fun k => decide (k ∈ bs)) n1')) d = none := by
                  rw [← show p = d from c]
                  exact np
                rw [ed] at np'
                cases np'
          · intro j e r2 hj hr2
            by_cases ji : j < i
            · rw [List.getElem?_append_left (by omega)] at hj
              exact od2.bel j e r2 hj hr2
            · rw [List.getElem?_append_right (by omega), el] at hj
              have j0 : j - i = 0 := by
                have := (List.getElem?_eq_some_iff.mp hj).1
                simpa using this
              rw [j0] at hj
              cases hj
              have ji' : j = i := by omega
              rw [ji', hr1] at hr2
              cases hr2
              exact ⟨ynd, fun y => by rw [ymem y, decide_eq_true_iff]; exact bel y⟩
          · intro e me
            rcases List.mem_append.mp me with m | m
            · exact fre e m
            · rw [List.mem_singleton.mp m]
              exact ((s4.trans s5).trans (same_upd (o := SetXO w s1' (fun k => decide (k ∈ bs)) n1') ns1)).free np
    · rintro σ H1 ⟨_, _, _, _, _, _, es, rfl, s1, od, fre⟩
      rw [List.length_map] at od
      exact ⟨.ref d, rfl, q H1 d es s1 od nd fre⟩
end
theorem down_in {rows : List Row} {zs : List Str} (h : Texts rows zs) (ns : List Str) (o : Str) : inV (.str o) (downL (ns.map V.str) rows) = true ↔ ∃ r r' : Row, (∃ z ∈ ns, r.2.1 = .str z) ∧ r'.2.1 = .str o ∧ Path meets rows r' r := by
  have e3 : inV (.str o) (downL (ns.map V.str) rows) = inV (.str o) (reachL (ns.map V.str) rows.reverse) := by
    unfold downL inV
    rw [List.any_reverse]
  rw [e3, reach_in h.rev]
  constructor
  · rintro ⟨r, r', hz, e, hp⟩
    have := path_rev hp
    rw [List.reverse_reverse] at this
    exact ⟨r, r', hz, e, path_flip h (fun r m => m) this⟩
  · rintro ⟨r, r', hz, e, hp⟩
    exact ⟨r, r', hz, e, path_flip h (fun r m => List.mem_reverse.mp m) (path_rev hp)⟩
theorem in_map {z : Str} {l : List Str} : inV (.str z) (l.map V.str) = true ↔ z ∈ l := (in_str (fun v m => by obtain ⟨s, _, rfl⟩ := List.mem_map.mp m; exact ⟨s, rfl⟩)).trans mem_map_str
/-- the entry of a name -/
theorem OrdTo.of {H1 : Hp} {d : Addr} {rows : List Row} {zs : List Str} {es : List Ent} (o : OrdTo H1 d rows zs rows.length es) (tx : Texts rows zs) {y : Str} (my : y ∈ zs) :
    ∃ e ∈ es, valV (es.map entK) (Sum.inr y) = some (V.ref e.2.1) ∧ ∀ x ∈ rows, x.2.1 = .str y → Below rows x e.2.2 := by
  have zl : zs.length = rows.length := by
    have := congrArg List.length tx.nms
    rw [List.length_map, List.length_map] at this
    exact this.symm
  have nms : es.map (fun e => e.1) = zs := by
    rw [o.nms, ← zl, List.take_length]
  have end_ : (es.map fun e => e.1).Nodup := by
    rw [nms]
    exact tx.nd
  obtain ⟨j, hj⟩ := List.getElem?_of_mem my
  have he : (es.map fun e => e.1)[j]? = some y := by
    rw [nms]
    exact hj
  rw [List.getElem?_map] at he
  obtain ⟨e, he, ey⟩ := Option.map_eq_some_iff.mp he
  refine ⟨e, List.mem_of_getElem? he, ent_get end_ he ey, fun x mx ex => ?_⟩
  have jl : j < rows.length := by
    have := (List.getElem?_eq_some_iff.mp hj).1
    omega
  have h2 : (rows.map fun r => r.2.1)[j]? = some (V.str y) := by
    rw [tx.nms, List.getElem?_map, hj]
    rfl
  rw [List.getElem?_map] at h2
  obtain ⟨r, hr, er⟩ := Option.map_eq_some_iff.mp h2
  have : r = x := tx.one (List.mem_of_getElem? hr) mx (by rw [er, ex])
  rw [← this]
  exact o.bel j e r he hr
theorem Tbs.of_tbk {ps : List Addr} {H H' : Hp} {p : Addr} (h : ∀ q ∈ ps, GxR.TabG H q) (hp : p ∈ ps) (t : Tbk p H H') : Tbs ps H H' := by
  refine ⟨fun b o nb e => t.keep b o (fun z => nb (z ▸ hp)) e, fun q hq => ?_⟩
  by_cases z : q = p
  · rw [z]
    exact t.tab
  · obtain ⟨qs, e, tt⟩ := h q hq
    exact ⟨qs, t.keep _ _ z e, tt⟩
theorem Tbs.sub {ps : List Addr} {F H H' : Hp} (t : Tbs ps H H') (s : Same F H) (f : ∀ p ∈ ps, F p = none) : Same F H' := fun b o e => t.keep b o (fun z => by
  rw [f b z] at e
  cases e) (s b o e)
theorem in_dec {z : Str} {l : List Str} : inV (.str z) (l.map V.str) = decide (z ∈ l) := by
  rw [Bool.eq_iff_iff, decide_eq_true_iff]
  exact in_map
theorem OrdTo.nd {H1 : Hp} {d : Addr} {rows : List Row} {zs : List Str} {i : Nat} {es : List Ent} (o : OrdTo H1 d rows zs i es) (tx : Texts rows zs) : (es.map fun e => e.1).Nodup := by
  rw [o.nms]
  exact tx.nd.sublist (List.take_sublist _ _)
theorem Texts.len {rows : List Row} {zs : List Str} (tx : Texts rows zs) : zs.length = rows.length := by
  have := congrArg List.length tx.nms
  rw [List.length_map, List.length_map] at this
  exact this.symm
theorem OrdTo.len {H1 : Hp} {d : Addr} {rows : List Row} {zs : List Str} {es : List Ent} (o : OrdTo H1 d rows zs rows.length es) (tx : Texts rows zs) : es.length = rows.length := by
  have := congrArg List.length o.nms
  rw [List.length_map, List.length_take, tx.len, Nat.min_self] at this
  exact this
theorem OrdTo.all {H1 : Hp} {d : Addr} {rows : List Row} {zs : List Str} {es : List Ent} (o : OrdTo H1 d rows zs rows.length es) (tx : Texts rows zs) : es.map (fun e => e.1) = zs := by
  rw [o.nms, List.take_of_length_le (by rw [tx.len]; exact Nat.le_refl _)]
theorem OrdTo.ent {H1 : Hp} {d : Addr} {rows : List Row} {zs : List Str} {es : List Ent} (o : OrdTo H1 d rows zs rows.length es) (tx : Texts rows zs) {e : Ent} (m : e ∈ es) : ∃ r ∈ rows, r.2.1 = .str e.1 ∧ Below rows r e.2.2 := by
  obtain ⟨j, hj⟩ := List.getElem?_of_mem m
  have jl : j < rows.length := by
    have := (List.getElem?_eq_some_iff.mp hj).1
    rw [o.len tx] at this
    exact this
  refine ⟨rows[j], List.getElem_mem jl, ?_, o.bel j e rows[j] hj (List.getElem?_eq_getElem jl)⟩
  have h1 : (es.map fun e => e.1)[j]? = some e.1 := by rw [List.getElem?_map, hj]; rfl
  rw [o.all tx] at h1
  have h2 : (rows.map fun r => r.2.1)[j]? = some rows[j].2.1 := by rw [List.getElem?_map, List.getElem?_eq_getElem jl]; rfl
  rw [tx.nms, List.getElem?_map, h1] at h2
  exact (Option.some.inj h2).symm
theorem OrdTo.short {H1 : Hp} {d : Addr} {rows : List Row} {zs : List Str} {es : List Ent} (o : OrdTo H1 d rows zs rows.length es) (tx : Texts rows zs) {e : Ent} (m : e ∈ es) : e.2.2.length ≤ rows.length ∧ ∀ z ∈ e.2.2, z ∈ zs := by
  obtain ⟨r, _, _, b⟩ := o.ent tx m
  refine ⟨?_, fun z mz => b.inn tx mz⟩
  have := nodup_len b.nd fun z m => b.inn tx m
  rw [tx.len] at this
  exact this
def gOf (es : List Ent) (z : Str) : List Str := ((es.find? fun e => decide (e.1 = z)).map fun e => e.2.2).getD []
theorem gOf_at : ∀ {es : List Ent}, (es.map fun e => e.1).Nodup → ∀ {e : Ent}, e ∈ es → gOf es e.1 = e.2.2
  | [], _, e, m => nomatch m
  | x :: es, nd, e, m => by
    have nd' := List.nodup_cons.mp nd
    unfold gOf
    rw [List.find?_cons]
    by_cases z : x.1 = e.1
    · rw [decide_eq_true z]
      rcases List.mem_cons.mp m with h | h
      · rw [h]
        rfl
      · exact absurd (List.mem_map.mpr ⟨e, h, z.symm⟩) nd'.1
    · rw [decide_eq_false z]
      rcases List.mem_cons.mp m with h | h
      · exact absurd (by rw [h]) z
      · exact gOf_at nd'.2 h
theorem row_of {rows : List Row} {zs : List Str} (tx : Texts rows zs) {z : Str} (m : z ∈ zs) : ∃ r ∈ rows, r.2.1 = .str z := by
  have : V.str z ∈ rows.map fun r => r.2.1 := by
    rw [tx.nms]
    exact List.mem_map_of_mem m
  obtain ⟨r, mr, e⟩ := List.mem_map.mp this
  exact ⟨r, mr, e⟩
theorem nodup_eq {α : Type} [BEq α] [LawfulBEq α] {l m : List α} (nd : l.Nodup) (md : m.Nodup) (h : ∀ x ∈ l, x ∈ m) (e : m.length = l.length) : ∀ x ∈ m, x ∈ l := fun x mx => by
  by_cases z : x ∈ l
  · exact z
  · have := nodup_len (l := x :: l) (m := m) (List.nodup_cons.mpr ⟨z, nd⟩) fun y my => by
      rcases List.mem_cons.mp my with rfl | my
      · exact mx
      · exact h y my
    rw [List.length_cons] at this
    omega
theorem cut_whole {xs : List V} {lo hi : Option Int} (h : HT.sIx xs.length 0 lo = 0 ∧ HT.sIx xs.length xs.length hi = xs.length) : cutV xs lo hi = xs := by
  unfold cutV
  rw [h.1, h.2, List.drop_zero, Nat.sub_zero, List.take_length]
theorem slice2 {K : PySem.W.Frag} {a t : Addr} {F H : Hp} {xs : List V} {lo hi : Option Int} {Q : VK} (s : Same F H) (l : ∃ o, H a = some o) (e : F t = some (.tup xs))
    (q : ∀ F' H' v, Mq a F H F' H' → F' v = some (.tup (cutV xs lo hi)) → Q (.ref v) H') : rSlA K (.ref t) lo hi H Q := by
  refine ⟨t, xs, rfl, SqT.of (s _ _ e), fun hw => ?_, fun _ p n => ?_⟩
  · exact q F H t (.refl s l) (by rw [cut_whole hw]; exact e)
  · exact q _ _ p (.new _ s l n) upd_same
theorem cat2 {K : PySem.W.Frag} {a t u : Addr} {F H : Hp} {xs ys : List V} {Q : VK} (s : Same F H) (l : ∃ o, H a = some o) (e1 : F t = some (.tup xs)) (e2 : F u = some (.tup ys)) (len : xs.length + ys.length ≤ 200)
    (q : ∀ F' H' v, Mq a F H F' H' → F' v = some (.tup (xs ++ ys)) → Q (.ref v) H') : rCatA K (.ref t) (.ref u) H Q := by
  refine ⟨t, u, xs, ys, rfl, rfl, SqT.of (s _ _ e1), SqT.of (s _ _ e2), Nat.le_trans len (by decide), fun h => ?_, fun _ h => ?_, fun _ _ p n => ?_⟩
  · subst h
    exact q F H u (.refl s l) e2
  · subst h
    exact q F H t (.refl s l) (by rw [List.append_nil]; exact e1)
  · exact q _ _ p (.new _ s l n) upd_same
theorem slice3 {K : PySem.W.Frag} {a t : Addr} {σ : List (Option V)} {F H : Hp} {xs : List V} {lo : Int} {Q : VK} (s : Same F H) (l : ∃ o, H a = some o) (e : F t = some (.tup xs))
    (q : ∀ F' H' v, Mq a F H F' H' → F' v = some (.tup (cutV xs (some lo) none)) → Q (.ref v) H') : tNoPart σ H fun u H3 => rSlA K (.ref t) (some lo) u H3 Q := slice2 s l e q
theorem one_mem {n k : Nat} {F : Hp} {x : V} (h : Wl n k F x) : ∀ y ∈ [x], Wl n k F y := fun y m => by
  rw [List.mem_singleton.mp m]
  exact h
theorem wl_app {n k : Nat} {F : Hp} {xs ys : List V} (h : ∀ x ∈ xs, Wl n k F x) (g : ∀ x ∈ ys, Wl n k F x) : ∀ x ∈ xs ++ ys, Wl n k F x := fun x m => by
  rcases List.mem_append.mp m with m | m
  · exact h x m
  · exact g x m
def ascB (z : Str) : Bool := z.cps.toList.all (fun c => decide (c < 128))
theorem asc_b {z : Str} (h : ascB z = true) : Asc z := fun c m => of_decide_eq_true (List.all_eq_true.mp h c m)
def Nm (y : V) : Prop := ∃ w, y = .str w ∧ Asc w ∧ w.length ≤ 8
theorem Nm.wl {y : V} (h : Nm y) {F : Hp} {n k : Nat} (hn : 82 ≤ n := by decide) : Wl n k F y := by
  obtain ⟨w, rfl, a, l⟩ := h
  exact wl_str (m := 8) a l (by omega)
structure Acn (F : Hp) (p t : Addr) (z : V) (ds : List V) : Prop where
  at_ : F p = some (.tup [z, .ref t])
  doc : F t = some (.tup ds)
  nm : Nm z
  dn : ∀ y ∈ ds, Nm y
  len : ds.length ≤ 8
  pos : 0 < ds.length
def Acts (F : Hp) (x : V) : Prop := ∃ p t z ds, x = .ref p ∧ Acn F p t z ds
theorem Acn.more {F F' : Hp} {p t : Addr} {z : V} {ds : List V} (s : Same F F') (h : Acn F p t z ds) : Acn F' p t z ds := ⟨s _ _ h.at_, s _ _ h.doc, h.nm, h.dn, h.len, h.pos⟩
theorem Acts.more {F F' : Hp} {x : V} (s : Same F F') (h : Acts F x) : Acts F' x := by
  obtain ⟨p, t, z, ds, rfl, h⟩ := h
  exact ⟨p, t, z, ds, rfl, h.more s⟩
theorem Nm.cp {y : V} (h : Nm y) {F : Hp} {k : Nat} : Cp k F y := by
  obtain ⟨w, rfl, a, l⟩ := h
  exact cp_str a
theorem shx_bool (b : Bool) : Shx (.bool b) := (good_bool b (n := 5) (k := 0) (by decide)).gx.shx
theorem pool_nm {z : Str} (h : z ∈ pool 40) : Nm (.str z) := by
  have e : ∀ z ∈ pool 40, ascB z = true ∧ z.length ≤ 8 := by decide +kernel
  exact ⟨z, rfl, asc_b (e z h).1, (e z h).2⟩
theorem docs_nm {y : V} (h : y ∈ docs8) : Nm y := by
  unfold docs8 at h
  simp only [List.mem_cons, List.not_mem_nil, or_false] at h
  rcases h with rfl | rfl | rfl | rfl | rfl | rfl | rfl | rfl <;> exact ⟨_, rfl, asc_b (by decide +kernel), by decide +kernel⟩
theorem acts_of {F : Hp} {t : Addr} {rows : List Row} {zs : List Str} (h : HeapIn F t rows) (nm : rows.map (fun r => r.2.1) = zs.map V.str) (inn : ∀ z ∈ zs, z ∈ pool 40) (sub : ∀ r ∈ rows, r.2.2.2.Sublist docs8 ∧ 0 < r.2.2.2.length) : ∀ x ∈ rows.map (fun r => V.ref r.1), Acts F x := by
  intro x m
  obtain ⟨r, mr, rfl⟩ := List.mem_map.mp m
  have m2 : r.2.1 ∈ zs.map V.str := by
    rw [← nm]
    exact List.mem_map_of_mem mr
  obtain ⟨z, mz, ez⟩ := List.mem_map.mp m2
  refine ⟨r.1, r.2.2.1, r.2.1, r.2.2.2, rfl, h.row r mr, h.doc r mr, ez ▸ pool_nm (inn z mz), fun y my => docs_nm ((sub r mr).1.subset my), ?_, (sub r mr).2⟩
  exact Nat.le_trans (sub r mr).1.length_le (by decide)
end Cu

namespace Cu
open PySem PySem.Spec PyProof.Rows L2
/-- those that meet none ahead of them -/
def lowR (pre : List Row) : List Row → List Row
  | [] => []
  | r :: t => if pre.any (meets r) = true then lowR (pre ++ [r]) t else r :: lowR (pre ++ [r]) t
theorem mem_lowR : ∀ (rem pre : List Row) (r : Row), r ∈ lowR pre rem ↔ ∃ l1 l2, rem = l1 ++ r :: l2 ∧ (pre ++ l1).any (meets r) = false
  | [], pre, r => by
    constructor
    · intro m
      cases m
    · rintro ⟨l1, l2, e, _⟩
      cases l1 <;> cases e
  | x :: t, pre, r => by
    have ih := mem_lowR t (pre ++ [x]) r
    have sub : r ∈ lowR (pre ++ [x]) t → ∃ l1 l2, x :: t = l1 ++ r :: l2 ∧ (pre ++ l1).any (meets r) = false := fun m => by
      obtain ⟨l1, l2, e, h⟩ := ih.mp m
      refine ⟨x :: l1, l2, by rw [e]; rfl, ?_⟩
      rw [List.append_assoc] at h
      exact h
    unfold lowR
    by_cases hx : pre.any (meets x) = true
    · rw [if_pos hx]
      refine ⟨sub, ?_⟩
      rintro ⟨l1, l2, e, h⟩
      cases l1 with
      | nil =>
        cases e
        rw [List.append_nil, hx] at h
        cases h
      | cons y l1 =>
        cases e
        refine ih.mpr ⟨l1, l2, rfl, ?_⟩
        rw [List.append_assoc]
        exact h
    · rw [if_neg hx]
      constructor
      · intro m
        rcases List.mem_cons.mp m with rfl | m
        · exact ⟨[], t, rfl, by rw [List.append_nil]; exact Bool.eq_false_iff.mpr hx⟩
        · exact sub m
      · rintro ⟨l1, l2, e, h⟩
        cases l1 with
        | nil =>
          cases e
          exact List.mem_cons_self
        | cons y l1 =>
          cases e
          refine List.mem_cons_of_mem _ (ih.mpr ⟨l1, l2, rfl, ?_⟩)
          rw [List.append_assoc]
          exact h
def lows (rem : List Row) : List Row := lowR [] rem
theorem mem_lows {rem : List Row} {r : Row} : r ∈ lows rem ↔ ∃ l1 l2, rem = l1 ++ r :: l2 ∧ ∀ w ∈ l1, meets r w = false := by
  unfold lows
  rw [mem_lowR]
  constructor
  · rintro ⟨l1, l2, e, h⟩
    refine ⟨l1, l2, e, fun w m => ?_⟩
    rw [List.nil_append, List.any_eq_false] at h
    exact Bool.eq_false_iff.mpr (h w m)
  · rintro ⟨l1, l2, e, h⟩
    refine ⟨l1, l2, e, ?_⟩
    rw [List.nil_append, List.any_eq_false]
    intro w m
    rw [h w m]
    exact Bool.false_ne_true
theorem lows_sub {rem : List Row} {r : Row} (h : r ∈ lows rem) : r ∈ rem := by
  obtain ⟨l1, l2, e, _⟩ := mem_lows.mp h
  rw [e]
  simp
theorem lows_pos {r : Row} {t : List Row} : r ∈ lows (r :: t) := mem_lows.mpr ⟨[], t, rfl, fun w m => nomatch m⟩
/-- the name of a row -/
def nmR (r : Row) : Str := match r.2.1 with
  | .str z => z
  | _ => Str.empty
/-- taken one after another, always the one with the least name that meets none ahead -/
inductive Norm : List Row → List Row → Prop
  | nil : Norm [] []
  | cons {rem : List Row} {m : Row} {j : Nat} {out : List Row} (hj : rem[j]? = some m) (low : m ∈ lows rem) (least : ∀ r ∈ lows rem, ¬ LtS (nmR r) (nmR m)) (t : Norm (rem.eraseIdx j) out) : Norm rem (m :: out)
theorem erase_filter {α : Type} [DecidableEq α] : ∀ {l : List α} {j : Nat} {m : α}, l.Nodup → l[j]? = some m → l.eraseIdx j = l.filter fun x => decide (x ≠ m)
  | [], _, _, _, h => by cases h
  | x :: l, 0, m, nd, h => by
    cases h
    have nd' := List.nodup_cons.mp nd
    rw [List.eraseIdx_cons_zero, List.filter_cons_of_neg (by simp)]
    refine (List.filter_eq_self.mpr fun y my => ?_).symm
    have ne : y ≠ x := fun e => nd'.1 (by rw [← e]; exact my)
    exact decide_eq_true ne
  | x :: l, j + 1, m, nd, h => by
    have nd' := List.nodup_cons.mp nd
    have hm : m ∈ l := List.mem_of_getElem? h
    have ne : x ≠ m := fun e => nd'.1 (by rw [e]; exact hm)
    rw [List.eraseIdx_cons_succ, erase_filter nd'.2 h, List.filter_cons, if_pos (decide_eq_true ne)]
theorem Norm.one {rem : List Row} {o1 : List Row} (h1 : Norm rem o1) : ∀ {o2 : List Row}, rem.Nodup → (∀ r ∈ rem, ∀ s ∈ rem, nmR r = nmR s → r = s) → Norm rem o2 → o1 = o2 := by
  induction h1 with
  | nil =>
    intro o2 _ _ h2
    cases h2 with
    | nil => rfl
    | cons hj _ _ _ => cases hj
  | @cons rem m j out hj low least t ih =>
    intro o2 nd inj h2
    cases h2 with
    | nil => cases hj
    | @cons _ m2 j2 out2 hj2 low2 least2 t2 =>
      have em : m = m2 := by
        refine inj m (lows_sub low) m2 (lows_sub low2) ?_
        by_cases e : nmR m = nmR m2
        · exact e
        · exact absurd (ltS_of (least2 m low) (fun z => e z.symm)) (least m2 low2)
      subst em
      have ej := erase_filter nd hj
      have ej2 := erase_filter nd hj2
      rw [ej2, ← ej] at t2
      rw [ih (nd.sublist (List.eraseIdx_sublist _ _)) (fun r mr s ms => inj r ((List.eraseIdx_sublist _ _).subset mr) s ((List.eraseIdx_sublist _ _).subset ms)) t2]
theorem perm_erase {α : Type} : ∀ {l : List α} {j : Nat} {m : α}, l[j]? = some m → (m :: l.eraseIdx j).Perm l
  | [], _, _, h => by cases h
  | x :: l, 0, m, h => by
    cases h
    exact .refl _
  | x :: l, j + 1, m, h => by
    rw [List.eraseIdx_cons_succ]
    exact (List.Perm.swap x m _).trans ((perm_erase (l := l) (j := j) h).cons x)
theorem Norm.perm {rem out : List Row} (h : Norm rem out) : out.Perm rem := by
  induction h with
  | nil => exact .refl _
  | @cons rem m j out hj _ _ t ih =>
    exact (ih.cons m).trans (perm_erase hj)
theorem minD_least (k : PyData → Str) : ∀ (ds : List PyData) (d : PyData), (∀ x ∈ d :: ds, ∀ y ∈ d :: ds, PySem.W.dataLt x y = decide (tl (k x) < tl (k y))) → PySem.W.minD d ds ∈ d :: ds ∧ ∀ y ∈ d :: ds, ¬ LtS (k y) (k (PySem.W.minD d ds))
  | [], d, _ => ⟨List.mem_cons_self, fun y m => by
    rw [List.mem_singleton.mp m]
    exact ltS_irr _⟩
  | e :: ds, d, h => by
    have he := h e (by simp) d (by simp)
    show PySem.W.minD (if PySem.W.dataLt e d = true then e else d) ds ∈ _ ∧ ∀ y ∈ _, ¬ LtS (k y) (k (PySem.W.minD (if PySem.W.dataLt e d = true then e else d) ds))
    by_cases c : PySem.W.dataLt e d = true
    · rw [if_pos c]
      obtain ⟨i1, i2⟩ := minD_least k ds e fun x mx y my => h x (List.mem_cons_of_mem _ mx) y (List.mem_cons_of_mem _ my)
      rw [he, decide_eq_true_iff] at c
      refine ⟨List.mem_cons_of_mem _ i1, fun y my => ?_⟩
      rcases List.mem_cons.mp my with rfl | my
      · intro z
        exact i2 e List.mem_cons_self (ltS_trans c z)
      · exact i2 y my
    · rw [if_neg c]
      obtain ⟨i1, i2⟩ := minD_least k ds d fun x mx y my => h x (by
        rcases List.mem_cons.mp mx with rfl | mx
        · simp
        · simp [mx]) y (by
        rcases List.mem_cons.mp my with rfl | my
        · simp
        · simp [my])
      rw [he, decide_eq_true_iff] at c
      refine ⟨by
        rcases List.mem_cons.mp i1 with z | z
        · rw [z]
          simp
        · simp [z], fun y my => ?_⟩
      rcases List.mem_cons.mp my with rfl | my
      · exact i2 _ List.mem_cons_self
      · rcases List.mem_cons.mp my with rfl | my
        · intro z
          by_cases w : y = PySem.W.minD d ds
          · rw [← w] at z
            exact ltS_irr _ z
          · have nd := i2 d List.mem_cons_self
            by_cases e1 : k d = k (PySem.W.minD d ds)
            · rw [← e1] at z
              exact c z
            · exact c (ltS_trans z (ltS_of nd fun q => e1 q.symm))
        · exact i2 y (List.mem_cons_of_mem _ my)
theorem dlt_str (a b : Str) : PySem.W.dataLt (.str a) (.str b) = decide (tl a < tl b) := PySem.W.dataLt_str a b
def dV : V → PyData
  | .str z => .str z
  | _ => .none
def dRow (r : Row) : PyData := .tuple [.str (nmR r), .tuple (r.2.2.2.map dV)]
def kD : PyData → Str
  | .tuple (.str a :: _) => a
  | _ => Str.empty
structure TxR (r : Row) : Prop where
  nm : r.2.1 = .str (nmR r)
  ds : ∀ y ∈ r.2.2.2, ∃ z, y = .str z
structure RowsF (F : Hp) (rows : List Row) : Prop where
  row : ∀ r ∈ rows, F r.1 = some (.tup [r.2.1, .ref r.2.2.1])
  doc : ∀ r ∈ rows, F r.2.2.1 = some (.tup r.2.2.2)
  flat : ∀ r ∈ rows, r.2.2.2.all flatV = true ∧ flatV r.2.1 = true
  few : ∀ r ∈ rows, r.2.2.2.length ≤ 8
  tx : ∀ r ∈ rows, TxR r
theorem RowsF.more {F F' : Hp} {rows : List Row} (h : RowsF F rows) (s : Same F F') : RowsF F' rows :=
  ⟨fun r m => s _ _ (h.row r m), fun r m => s _ _ (h.doc r m), h.flat, h.few, h.tx⟩
theorem RowsF.sub {F : Hp} {rows l : List Row} (h : RowsF F rows) (s : ∀ r ∈ l, r ∈ rows) : RowsF F l :=
  ⟨fun r m => h.row r (s r m), fun r m => h.doc r (s r m), fun r m => h.flat r (s r m), fun r m => h.few r (s r m), fun r m => h.tx r (s r m)⟩
theorem tx_of {rows : List Row} {zs : List Str} (tx : Texts rows zs) {r : Row} (m : r ∈ rows) : TxR r := by
  obtain ⟨z, _, e⟩ := tx.str m
  refine ⟨by unfold nmR; rw [e], fun y my => ?_⟩
  obtain ⟨w, e, _⟩ := docs_nm ((tx.sub r m).subset my)
  exact ⟨w, e⟩
theorem HeapIn.rowsF {F : Hp} {t : Addr} {rows : List Row} {zs : List Str} (h : HeapIn F t rows) (tx : Texts rows zs) : RowsF F rows :=
  ⟨h.row, h.doc, h.flat, h.few, fun r m => tx_of tx m⟩
theorem dp_vs {K : PySem.W.Frag} {H : Hp} : ∀ {ys : List V}, (∀ y ∈ ys, ∃ z, y = .str z) → DpAll K H ys (ys.map dV)
  | [], _ => .nil
  | y :: ys, h => by
    obtain ⟨z, rfl⟩ := h y List.mem_cons_self
    exact .cons (.str z) (dp_vs fun y m => h y (List.mem_cons_of_mem _ m))
theorem alike_vs : ∀ {ys xs : List V}, (∀ y ∈ ys, ∃ z, y = .str z) → (∀ y ∈ xs, ∃ z, y = .str z) → PySem.W.alikeAll (ys.map dV) (xs.map dV) = true
  | [], _, _, _ => by rw [List.map_nil, PySem.W.alikeAll]
  | y :: ys, [], _, _ => by rw [List.map_nil, List.map_cons, PySem.W.alikeAll]
  | y :: ys, x :: xs, h, g => by
    obtain ⟨z, rfl⟩ := h y List.mem_cons_self
    obtain ⟨u, rfl⟩ := g x List.mem_cons_self
    rw [List.map_cons, List.map_cons, PySem.W.alikeAll, alike_vs (fun y m => h y (List.mem_cons_of_mem _ m)) (fun y m => g y (List.mem_cons_of_mem _ m))]
    show PySem.W.alike (.str z) (.str u) && true = true
    rw [PySem.W.alike]
    rfl
theorem plain_vs : ∀ {ys : List V}, (∀ y ∈ ys, ∃ z, y = .str z) → PyData.plainAll (ys.map dV) = true ∧ PyData.depthAll (ys.map dV) = 0
  | [], _ => ⟨rfl, rfl⟩
  | y :: ys, h => by
    obtain ⟨z, rfl⟩ := h y List.mem_cons_self
    obtain ⟨i1, i2⟩ := plain_vs (ys := ys) fun y m => h y (List.mem_cons_of_mem _ m)
    rw [List.map_cons, PyData.plainAll, PyData.depthAll, i1, i2]
    exact ⟨rfl, rfl⟩
theorem row_alike {r r' : Row} (h : TxR r) (h' : TxR r') : PySem.W.alike (dRow r) (dRow r') = true := by
  unfold dRow
  rw [PySem.W.alike, PySem.W.alikeAll, PySem.W.alikeAll, PySem.W.alike, PySem.W.alike, PySem.W.alikeAll, alike_vs h.ds h'.ds]
  rfl
theorem row_plain {r : Row} (h : TxR r) : (dRow r).plain = true ∧ (dRow r).depth = 2 := by
  obtain ⟨i1, i2⟩ := plain_vs h.ds
  unfold dRow
  rw [PyData.plain, PyData.plainAll, PyData.plainAll, PyData.plainAll, PyData.plain, PyData.plain, i1, PyData.depth, PyData.depthAll, PyData.depthAll, PyData.depthAll, PyData.depth, PyData.depth, i2]
  exact ⟨rfl, rfl⟩
theorem row_dp {K : PySem.W.Frag} {H : Hp} {r : Row} (h : TxR r) (e : H r.1 = some (.tup [r.2.1, .ref r.2.2.1])) (e2 : H r.2.2.1 = some (.tup r.2.2.2)) : Dp K H (.ref r.1) (dRow r) := by
  refine .tup (SqT.of e) ?_
  rw [h.nm]
  exact .cons (.str _) (.cons (.tup (SqT.of e2) (dp_vs h.ds)) .nil)
theorem rows_dp {K : PySem.W.Frag} {H : Hp} : ∀ {rows : List Row}, (∀ r ∈ rows, TxR r ∧ H r.1 = some (.tup [r.2.1, .ref r.2.2.1]) ∧ H r.2.2.1 = some (.tup r.2.2.2)) → DpAll K H (rows.map fun r => V.ref r.1) (rows.map dRow)
  | [], _ => .nil
  | r :: l, h => by
    obtain ⟨a, b, c⟩ := h r List.mem_cons_self
    exact .cons (row_dp a b c) (rows_dp fun r m => h r (List.mem_cons_of_mem _ m))
theorem rows_plain : ∀ {rows : List Row}, (∀ r ∈ rows, TxR r) → PyData.plainAll (rows.map dRow) = true ∧ PyData.depthAll (rows.map dRow) ≤ 2
  | [], _ => ⟨rfl, Nat.zero_le _⟩
  | r :: l, h => by
    obtain ⟨a, b⟩ := row_plain (h r List.mem_cons_self)
    obtain ⟨i1, i2⟩ := rows_plain (rows := l) fun r m => h r (List.mem_cons_of_mem _ m)
    rw [List.map_cons, PyData.plainAll, PyData.depthAll, a, b, i1]
    exact ⟨rfl, by omega⟩
theorem rows_alike {rows : List Row} (h : ∀ r ∈ rows, TxR r) : PySem.W.AlikeAll (rows.map dRow) := by
  refine ⟨fun x mx y my => ?_, fun x mx => ?_⟩
  · obtain ⟨r, mr, rfl⟩ := List.mem_map.mp mx
    obtain ⟨r', mr', rfl⟩ := List.mem_map.mp my
    exact row_alike (h r mr) (h r' mr')
  · obtain ⟨r, mr, rfl⟩ := List.mem_map.mp mx
    unfold dRow
    exact fun e => nomatch e
theorem eqv_str (a b : Str) : PyData.eqv (.str a) (.str b) = decide (a = b) := by
  rw [PyData.eqv]
  by_cases e : a = b
  · rw [decide_eq_true e, e]
    exact beq_self_eq_true b
  · rw [decide_eq_false e]
    exact beq_eq_false_iff_ne.mpr e
theorem row_lt {r r' : Row} (h : TxR r) (h' : TxR r') (inj : nmR r = nmR r' → dRow r = dRow r') : PySem.W.dataLt (dRow r) (dRow r') = decide (tl (nmR r) < tl (nmR r')) := by
  by_cases e : nmR r = nmR r'
  · rw [inj e, PySem.W.dataLt_self, e]
    exact (decide_eq_false (show ¬ tl (nmR r') < tl (nmR r') from ltS_irr _)).symm
  · unfold dRow
    rw [PySem.W.dataLt_pair (by rw [PySem.W.alike]) (by rw [PySem.W.alike]; exact alike_vs h.ds h'.ds), eqv_str, decide_eq_false e, if_neg Bool.false_ne_true]
    exact dlt_str _ _
theorem row_eqv {r r' : Row} (h : PyData.eqv (dRow r) (dRow r') = true) : nmR r = nmR r' := by
  unfold dRow at h
  rw [PyData.eqv, PyData.eqvAll, Bool.and_eq_true, eqv_str] at h
  exact of_decide_eq_true h.1
/-- the rows' names differ -/
def Apart (rows : List Row) : Prop := (rows.map nmR).Nodup
theorem Apart.one {rows : List Row} (h : Apart rows) {r r' : Row} (m : r ∈ rows) (m' : r' ∈ rows) (e : nmR r = nmR r') : r = r' := inj_of h m m' e
theorem Apart.sub {rows l : List Row} (h : Apart rows) (s : l.Sublist rows) : Apart l := List.Nodup.sublist (s.map nmR) h
theorem row_place {rows : List Row} {j : Nat} {r m : Row} (ap : Apart rows) (tx : TxR m) (hj : rows[j]? = some r) (e : r.2 = m.2) : PySem.SeqAt.dataPlace (rows.map dRow) (dRow m) = some j := by
  have er : dRow r = dRow m := by
    unfold dRow nmR
    rw [e]
  unfold PySem.SeqAt.dataPlace
  rw [List.findIdx?_eq_some_iff_getElem]
  obtain ⟨hl, hv⟩ := List.getElem?_eq_some_iff.mp hj
  refine ⟨by rw [List.length_map]; exact hl, ?_, fun i hi => ?_⟩
  · rw [List.getElem_map, hv, er]
    exact PySem.SeqAt.eqv_refl_plain _ (row_plain tx).1
  · rw [List.getElem_map]
    intro z
    have en := row_eqv z
    have em : nmR m = nmR r := by
      unfold nmR
      rw [e]
    have : i = j := by
      have il : i < rows.length := Nat.lt_trans hi hl
      have key : (rows.map nmR)[i]'(by rw [List.length_map]; exact il) = (rows.map nmR)[j]'(by rw [List.length_map]; exact hl) := by
        rw [List.getElem_map, List.getElem_map, hv, en, em]
      exact (List.getElem_inj ap).mp key
    omega
theorem lowR_snoc : ∀ (l pre : List Row) (r : Row), lowR pre (l ++ [r]) = lowR pre l ++ (if (pre ++ l).any (meets r) = true then [] else [r])
  | [], pre, r => by
    rw [List.nil_append, List.append_nil]
    unfold lowR
    by_cases h : pre.any (meets r) = true
    · rw [if_pos h, if_pos h]
      rfl
    · rw [if_neg h, if_neg h]
      rfl
  | x :: l, pre, r => by
    have ih := lowR_snoc l (pre ++ [x]) r
    rw [List.append_assoc] at ih
    rw [List.cons_append]
    unfold lowR
    by_cases h : pre.any (meets x) = true
    · rw [if_pos h, if_pos h]
      exact ih
    · rw [if_neg h, if_neg h, ih]
      rfl
theorem lows_next {rows : List Row} {i : Nat} {r : Row} (h : rows[i]? = some r) : lows (rows.take (i + 1)) = lows (rows.take i) ++ (if (rows.take i).any (meets r) = true then [] else [r]) := by
  unfold lows
  rw [List.take_add_one, h]
  exact (lowR_snoc _ _ _)
abbrev sLo : Stmt := topS 11
abbrev nLo : List Str := ["actions", "covered", "found", "name", "documents"]
theorem scLo : FnScope nLo ["actions"] (defScope sLo) := ⟨rfl, rfl, rfl, by decide +kernel, rfl, by decide +kernel, by decide +kernel⟩
abbrev sNo : Stmt := topS 10
abbrev nNo : List Str := ["heap", "remaining", "ordered", "least"]
theorem scNo : FnScope nNo ["heap"] (defScope sNo) := ⟨rfl, rfl, rfl, by decide +kernel, rfl, by decide +kernel, by decide +kernel⟩
/-- more was made; what is told of it was not there before -/
structure Mt (tb : Addr) (F H F' H' : Hp) : Prop where
  k : Tbk tb H H'
  s : Same F F'
  s' : Same F' H'
  ft : F' tb = none
  fr : ∀ b, F b = none → H b ≠ none → F' b = none
theorem Mt.refl {tb : Addr} {F H : Hp} (t : GxR.TabG H tb) (s : Same F H) (ft : F tb = none) : Mt tb F H F H := ⟨.refl t, fun _ _ e => e, s, ft, fun _ h _ => h⟩
theorem Mt.step {tb : Addr} {F H F' H' H'' : Hp} (m : Mt tb F H F' H') (t : Tbk tb H' H'') : Mt tb F H F' H'' := ⟨m.k.trans t, m.s, t.same m.s' m.ft, m.ft, m.fr⟩
theorem Tbk.some_ {tb : Addr} {H H' : Hp} (t : Tbk tb H H') {b : Addr} (h : H b ≠ none) : H' b ≠ none := by
  by_cases e : b = tb
  · rw [e]
    obtain ⟨ps, h, _⟩ := t.tab
    rw [h]
    exact fun e => nomatch e
  · cases hb : H b with
    | none => exact absurd hb h
    | some o =>
      rw [t.keep b o e hb]
      exact fun e => nomatch e
theorem Mt.trans {tb : Addr} {F H F1 H1 F2 H2 : Hp} (a : Mt tb F H F1 H1) (b : Mt tb F1 H1 F2 H2) : Mt tb F H F2 H2 :=
  ⟨a.k.trans b.k, fun x o e => b.s x o (a.s x o e), b.s', b.ft, fun x hf hh => b.fr x (a.fr x hf hh) (a.k.some_ hh)⟩
theorem Mt.new {tb p : Addr} {F H F' H' : Hp} {o : HO} (m : Mt tb F H F' H') (n : H' p = none) : Mt tb F H (upd F' p o) (upd H' p o) := by
  have np : p ≠ tb := tab_ne m.k.tab n
  have fp : F' p = none := by
    cases h : F' p with
    | none => rfl
    | some x => rw [m.s' p x h] at n; cases n
  refine ⟨m.k.trans (.new m.k.tab n), fun x o' e => same_upd fp x o' (m.s x o' e), fun x o' e => ?_, (upd_ne np.symm).trans m.ft, fun x hf hh => ?_⟩
  · by_cases hx : x = p
    · rw [hx, upd_same] at e
      rw [hx, upd_same]
      exact e
    · rw [upd_ne hx] at e
      rw [upd_ne hx]
      exact m.s' x o' e
  · have hx : x ≠ p := fun e => m.k.some_ hh (e ▸ n)
    rw [upd_ne hx]
    exact m.fr x hf hh
theorem Mt.put {tb p : Addr} {F H F' H' : Hp} {o : HO} (m : Mt tb F H F' H') (n : H p = none) (np : p ≠ tb) (fp : F' p = none) : Mt tb F H F' (upd H' p o) :=
  ⟨m.k.put n np, m.s, fun x o' e => (upd_ne (ne_of_none e fp)).trans (m.s' x o' e), m.ft, m.fr⟩
section
variable {P : Program} {w : World} {K : PySem.W.Frag} {mg : Str → Option Value} {base : Heap}
def spLow (tb : Addr) : Sp := fun vs H Q _ => ∃ (F : Hp) (l : Addr) (rows : List Row), vs = [.ref l] ∧ Same F H ∧ F tb = none ∧ GxR.TabG H tb ∧ RowsF F rows ∧ H l = some (.lst (rows.map fun r => V.ref r.1)) ∧ l ≠ tb ∧ rows.length ≤ 100 ∧
  ∀ H' F' p out, Mt tb F H F' H' → H p = none → p ≠ tb → F' p = none → H' p = some (.lst (out.map fun r => V.ref r.1)) → out.map (fun r => r.2) = (lows rows).map (fun r => r.2) → RowsF F' out → Q (.ref p) H'
theorem ok_low {f fS tb : Addr} {fd fdS : FuncData} {k : Nat} (F : Fun K "lowest" "lowest" sLo f fd) (DS : Df K mg "share" sShare ["documents", "others"] fS fdS) (GS : FnOk P w K mg base CX0 1 fS fdS ["documents", "others"] (spShare K tb)) (T : Bl mg) :
    FnOk P w K mg base CX0 (k + 2) f fd ["actions"] (spLow tb) := by
  refine F.ok scLo (fun vs H Q E h => ?_) (fun cdv A outer s H vs Q E hr h => ?_)
  · obtain ⟨G, l, rows, rfl, _⟩ := h
    rfl
  · obtain ⟨G, l, rows, rfl, sG, gt, tab, hp, el, lt, rl, q⟩ := h
    refine ⟨_, (pss_cons (ps_set (i := 1) scLo.nd rfl (.inl rfl) (pe_lst pa_nil))
  (pss_cons (ps_set (i := 2) scLo.nd rfl (.inl rfl) (pe_lst pa_nil))
  (pss_cons (ps_for PassesOwn.never rfl (pi_list (pv 0)) (pg_tup rfl (pgs_cons (pg_name (i := 3) scLo.nd rfl (.inl rfl)) (pgs_cons (pg_name (i := 4) scLo.nd rfl (.inl rfl)) pgs_nil)))
  (pss_cons (ps_if (pt_not (pt_val (pe_call GS (hr.mono (by omega)) (by rfl) DS.g DS.F.kp DS.b .nil pass0 (pa_cons (pv 4) (pa_cons (pv 1) pa_nil)))))
  (pss_one (ps_expr (pe_bm PySem.F.plainAttrs_list PySem.F.slot_list_append PySem.F.type_list_append mt_append (pv 2) (pa_cons (pe_tup (pa_cons (pv 3) (pa_cons (pv 4) pa_nil))) pa_nil))))
  pss_nil)
  (pss_one (ps_expr (pe_bm PySem.F.plainAttrs_list PySem.F.slot_list_extend PySem.F.type_list_extend mt_extT (pv 1) (pa_cons (pv 4) pa_nil))))))
  (pss_one (ps_ret (pv 2)))))), ?_⟩
    refine ⟨by show 0 ≤ sizeLine; decide, fun rd nrd => ⟨by show 0 ≤ sizeLine; decide, fun fo nfo => ?_⟩⟩
    have k1 : Tbk tb H _ := .new (o := .lst []) tab nrd
    have rdt := tab_ne tab nrd
    have k2 : Tbk tb H _ := k1.trans (.new (o := .lst []) k1.tab nfo)
    have fot := tab_ne k1.tab nfo
    have rdfo : rd ≠ fo := ne_of_none upd_same nfo
    have hfo : H fo = none := k1.free nfo fot
    have grd : G rd = none := by
      cases h : G rd with
      | none => rfl
      | some x => rw [sG _ _ h] at nrd; cases nrd
    have gfo : G fo = none := by
      cases h : G fo with
      | none => rfl
      | some x => rw [sG _ _ h] at hfo; cases hfo
    refine ⟨.ref l, rfl, l, rfl, ⟨_, SqL.of (k2.keep _ _ lt el)⟩, ?_⟩
    refine for_list (K := K) (a := l) (xs := rows.map fun r => V.ref r.1) (fun i σ H1 => ∃ y3 y4 F1 out, σ = [some (.ref l), some (.ref rd), some (.ref fo), y3, y4] ∧ Mt tb G H F1 H1 ∧ F1 rd = none ∧ F1 fo = none ∧
      H1 rd = some (.lst ((rows.take i).flatMap fun r => r.2.2.2)) ∧ ((rows.take i).flatMap fun r => r.2.2.2).length ≤ 8 * i ∧ ((rows.take i).flatMap fun r => r.2.2.2).all flatV = true ∧
      H1 fo = some (.lst (out.map fun r => V.ref r.1)) ∧ out.length ≤ i ∧ out.map (fun r => r.2) = (lows (rows.take i)).map (fun r => r.2) ∧ RowsF F1 out) ?_ ?_ ?_ ?_
    · exact ⟨none, none, G, [], rfl, ⟨k2, fun _ _ e => e, k2.same sG gt, gt, fun _ h _ => h⟩, grd, gfo, (upd_ne rdfo).trans upd_same, Nat.le_refl _, rfl, upd_same, Nat.le_refl _, rfl, ⟨nofun, nofun, nofun, nofun, nofun⟩⟩
    · rintro i σ H1 _ ⟨_, _, _, _, _, m, _⟩
      exact SqL.of (m.k.keep _ _ lt el)
    · rintro i x σ H1 hx ⟨y3, y4, F1, out, rfl, m, frd, ffo, e1, l1, fl, e2, l2, eo, ro⟩
      rw [List.getElem?_map] at hx
      obtain ⟨r, hr1, rfl⟩ := Option.map_eq_some_iff.mp hx
      have mr := List.mem_of_getElem? hr1
      have ilt : i < rows.length := (List.getElem?_eq_some_iff.mp hr1).1
      obtain ⟨fd1, fn1⟩ := hp.flat r mr
      have few := hp.few r mr
      have s1 : Same G H1 := fun x o e => m.s' x o (m.s x o e)
      have nx := lows_next hr1
      have tk : (rows.take (i + 1)).flatMap (fun r => r.2.2.2) = (rows.take i).flatMap (fun r => r.2.2.2) ++ r.2.2.2 := by
        rw [List.take_add_one, hr1, List.flatMap_append]
        show _ ++ (r.2.2.2 ++ []) = _
        rw [List.append_nil]
      have an : (r.2.2.2.any fun x => inV x ((rows.take i).flatMap fun r => r.2.2.2)) = (rows.take i).any (meets r) := any_docs _ _
      refine ⟨r.1, _, rfl, SqT.of (s1 _ _ (hp.row r mr)), rfl, _, _, rfl, _, _, rfl, rfl, ?_⟩
      -- the last step of the turn
      have last : ∀ H2 F2 out2, Mt tb G H F2 H2 → F2 rd = none → F2 fo = none → H2 rd = some (.lst ((rows.take i).flatMap fun r => r.2.2.2)) → H2 fo = some (.lst (out2.map fun r => V.ref r.1)) → out2.length ≤ i + 1 → out2.map (fun r => r.2) = (lows (rows.take (i + 1))).map (fun r => r.2) → RowsF F2 out2 →
          ∃ y3 y4 F1 out, [some (V.ref l), some (.ref rd), some (.ref fo), some r.2.1, some (.ref r.2.2.1)] = [some (.ref l), some (.ref rd), some (.ref fo), y3, y4] ∧ Mt tb G H F1 (upd H2 rd (.lst ((rows.take i).flatMap (fun r => r.2.2.2) ++ r.2.2.2))) ∧ F1 rd = none ∧ F1 fo = none ∧
            (upd H2 rd (.lst ((rows.take i).flatMap (fun r => r.2.2.2) ++ r.2.2.2))) rd = some (.lst ((rows.take (i + 1)).flatMap fun r => r.2.2.2)) ∧ ((rows.take (i + 1)).flatMap fun r => r.2.2.2).length ≤ 8 * (i + 1) ∧ ((rows.take (i + 1)).flatMap fun r => r.2.2.2).all flatV = true ∧
            (upd H2 rd (.lst ((rows.take i).flatMap (fun r => r.2.2.2) ++ r.2.2.2))) fo = some (.lst (out.map fun r => V.ref r.1)) ∧ out.length ≤ i + 1 ∧ out.map (fun r => r.2) = (lows (rows.take (i + 1))).map (fun r => r.2) ∧ RowsF F1 out := by
        intro H2 F2 out2 m2 f1 f2 e1 e2 lo eo ro
        refine ⟨_, _, F2, out2, rfl, m2.put nrd rdt f1, f1, f2, by rw [tk]; exact upd_same, ?_, ?_, (upd_ne rdfo.symm).trans e2, lo, eo, ro⟩
        · rw [tk, List.length_append]
          omega
        · rw [tk, List.all_append, fl, fd1]
          rfl
      refine ⟨.ref r.2.2.1, rfl, .ref rd, rfl, r.2.2.1, rd, _, _, rfl, m.k.tab, SqT.of (s1 _ _ (hp.doc r mr)), .inl (SqL.of e1), fd1, fl, fun H2 tb2 => ⟨_, rfl, ?_⟩⟩
      have m2 := m.step (.of tb2)
      have e1' : H2 rd = _ := (tb2.2 rd rdt).trans e1
      have e2' : H2 fo = _ := (tb2.2 fo fot).trans e2
      have s2 : Same G H2 := fun x o e => m2.s' x o (m2.s x o e)
      rw [an]
      cases h2 : (rows.take i).any (meets r) with
      | true =>
        refine iffF (by first | rfl | exact h2) ?_
        refine ⟨.ref rd, rfl, .inl ⟨rfl, _, SqL.of e1'⟩, .ref r.2.2.1, rfl, rd, _, _, _, rfl, rfl, e1', SqT.of (s2 _ _ (hp.doc r mr)), Nat.le_trans (show _ ≤ 1000 by omega) (by decide), ?_⟩
        refine last H2 F1 out m2 frd ffo e1' e2' (by omega) ?_ ro
        rw [nx, if_pos h2, List.append_nil]
        exact eo
      | false =>
        refine iffT (by first | rfl | exact h2) ?_
        refine ⟨.ref fo, rfl, .inl ⟨rfl, _, SqL.of e2'⟩, r.2.1, rfl, .ref r.2.2.1, rfl, by show 2 ≤ sizeLine; decide, fun p np => ⟨fo, out.map (fun r => V.ref r.1), .ref p, rfl, rfl, ?_, small1000 (by rw [List.length_map]; omega), ?_⟩⟩
        · exact same_upd np _ _ e2'
        · have m3 := m2.new (o := .tup [r.2.1, .ref r.2.2.1]) np
          have prd : p ≠ rd := fun e => by rw [e, e1'] at np; cases np
          have pfo : p ≠ fo := fun e => by rw [e, e2'] at np; cases np
          have m4 := m3.put (o := .lst ((out.map fun r => V.ref r.1) ++ [V.ref p])) hfo fot ((upd_ne pfo.symm).trans ffo)
          have s4 : Same G _ := fun x o e => m4.s' x o (m4.s x o e)
          have e1'' := (upd_ne (o := HO.lst ((out.map fun r => V.ref r.1) ++ [V.ref p])) rdfo).trans (same_upd (o := HO.tup [r.2.1, .ref r.2.2.1]) np _ _ e1')
          refine ⟨.ref rd, rfl, .inl ⟨rfl, _, SqL.of e1''⟩, V.ref r.2.2.1, rfl, rd, r.2.2.1, (rows.take i).flatMap (fun r => r.2.2.2), r.2.2.2, rfl, rfl, e1'', SqT.of (s4 _ _ (hp.doc r mr)), Nat.le_trans (show _ ≤ 1000 by omega) (by decide), ?_⟩
          refine last _ _ (out ++ [(p, r.2)]) m4 ((upd_ne prd.symm).trans frd) ((upd_ne pfo.symm).trans ffo) e1'' ?_ ?_ ?_ ?_
          · rw [List.map_append]
            exact upd_same
          · rw [List.length_append]
            exact Nat.succ_le_succ l2
          · rw [nx, if_neg (by rw [h2]; exact Bool.false_ne_true), List.map_append, List.map_append, eo]
            rfl
          · have ss : Same F1 (upd F1 p (.tup [r.2.1, .ref r.2.2.1])) := same_upd (by
              cases h : F1 p with
              | none => rfl
              | some x => rw [m2.s' _ _ h] at np; cases np)
            have ro' := ro.more ss
            have sp : ∀ {A : Row → Prop}, (∀ y ∈ out, A y) → A (p, r.2) → ∀ y ∈ out ++ [(p, r.2)], A y := fun h h' y my => by
              rcases List.mem_append.mp my with z | z
              · exact h y z
              · rw [List.mem_singleton.mp z]
                exact h'
            exact ⟨sp ro'.row upd_same, sp ro'.doc (ss _ _ (m.s _ _ (hp.doc r mr))), sp ro'.flat (hp.flat r mr), sp ro'.few few, sp ro'.tx ⟨(hp.tx r mr).nm, (hp.tx r mr).ds⟩⟩
    · rintro σ H1 ⟨y3, y4, F1, out, rfl, m, frd, ffo, e1, l1, fl, e2, l2, eo, ro⟩
      rw [List.length_map, List.take_length] at eo
      exact ⟨.ref fo, rfl, q H1 F1 fo out m hfo fot ffo e2 eo ro⟩
end
theorem none_of {F H : Hp} {p : Addr} (s : Same F H) (n : H p = none) : F p = none := by
  cases h : F p with
  | none => rfl
  | some x => rw [s _ _ h] at n; cases n
theorem erase_map {α β : Type} (f : α → β) : ∀ (l : List α) (j : Nat), (l.map f).eraseIdx j = (l.eraseIdx j).map f
  | [], _ => rfl
  | _ :: _, 0 => rfl
  | x :: l, j + 1 => by
    rw [List.map_cons, List.eraseIdx_cons_succ, List.eraseIdx_cons_succ, List.map_cons, erase_map f l j]
/-- how many items the list at p has -/
def lenAt (p : Addr) (H : Hp) : Nat := match H p with
  | some (.lst xs) => xs.length
  | _ => 0
theorem lenAt_of {p : Addr} {H : Hp} {xs : List V} (h : H p = some (.lst xs)) : lenAt p H = xs.length := by
  unfold lenAt
  rw [h]
theorem map_snd_len {a b : List Row} (h : a.map (fun r => r.2) = b.map fun r => r.2) : a.length = b.length := by
  have := congrArg List.length h
  rw [List.length_map, List.length_map] at this
  exact this
theorem map_snd_at {a b : List Row} (h : a.map (fun r => r.2) = b.map fun r => r.2) {i : Nat} {r : Row} (hr : a[i]? = some r) : ∃ r', b[i]? = some r' ∧ r'.2 = r.2 := by
  have e : (b.map fun r => r.2)[i]? = some r.2 := by
    rw [← h, List.getElem?_map, hr]
    rfl
  rw [List.getElem?_map] at e
  obtain ⟨r', h1, h2⟩ := Option.map_eq_some_iff.mp e
  exact ⟨r', h1, h2⟩
theorem nmR_of {r r' : Row} (h : r.2 = r'.2) : nmR r = nmR r' := by
  unfold nmR
  rw [h]
theorem dRow_of {r r' : Row} (h : r.2 = r'.2) : dRow r = dRow r' := by
  unfold dRow nmR
  rw [h]
/-- the least of the rows: at its place stands one whose name none is below -/
theorem least_at {rows : List Row} {d : PyData} {ds : List PyData} {i : Nat} {m : Row} (tx : ∀ r ∈ rows, TxR r) (inj : ∀ r ∈ rows, ∀ s ∈ rows, nmR r = nmR s → r.2 = s.2) (e : rows.map dRow = d :: ds) (hm : rows[i]? = some m) (hi : (d :: ds)[i]? = some (PySem.W.minD d ds)) : ∀ r ∈ rows, ¬ LtS (nmR r) (nmR m) := by
  have key := minD_least kD ds d (fun x mx y my => by
    rw [← e] at mx my
    obtain ⟨r, mr, rfl⟩ := List.mem_map.mp mx
    obtain ⟨s, ms, rfl⟩ := List.mem_map.mp my
    exact row_lt (tx r mr) (tx s ms) fun z => dRow_of (inj r mr s ms z))
  have em : PySem.W.minD d ds = dRow m := by
    rw [← e, List.getElem?_map, hm] at hi
    exact (Option.some.inj hi).symm
  intro r mr
  have := key.2 (dRow r) (by rw [← e]; exact List.mem_map_of_mem mr)
  rw [em] at this
  exact this
section
variable {P : Program} {w : World} {K : PySem.W.Frag} {mg : Str → Option Value} {base : Heap}
def spNorm (tb : Addr) : Sp := fun vs H Q _ => ∃ (F : Hp) (t : Addr) (rows : List Row), vs = [.ref t] ∧ Same F H ∧ F tb = none ∧ GxR.TabG H tb ∧ F t = some (.tup (rows.map fun r => V.ref r.1)) ∧ RowsF F rows ∧ Apart rows ∧ rows.length ≤ 100 ∧
  ∀ H' F' p out o2, Mt tb F H F' H' → H p = none → F' p = some (.tup (out.map fun r => V.ref r.1)) → Norm rows o2 → out.map (fun r => r.2) = o2.map (fun r => r.2) → RowsF F' out → Q (.ref p) H'
theorem ok_norm {f fL tb : Addr} {fd fdL : FuncData} {k : Nat} (F : Fun K "normal" "normal" sNo f fd) (DLo : Df K mg "lowest" sLo ["actions"] fL fdL) (GLo : FnOk P w K mg base CX0 2 fL fdL ["actions"] (spLow tb)) (T : Bl mg) :
    FnOk P w K mg base CX0 (k + 3) f fd ["heap"] (spNorm tb) := by
  refine F.ok scNo (fun vs H Q E h => ?_) (fun cdv A outer s H vs Q E hr h => ?_)
  · obtain ⟨G, t, rows, rfl, _⟩ := h
    rfl
  · obtain ⟨G, t, rows, rfl, sG, gt, tab, et, hp, ap, rl, q⟩ := h
    refine ⟨_, (pss_cons (ps_set (i := 1) scNo.nd rfl (.inl rfl) (pe_callTy call_list_of (by rfl) T.list (by decide +kernel) (pa_cons (pv 0) pa_nil)))
  (pss_cons (ps_set (i := 2) scNo.nd rfl (.inl rfl) (pe_lst pa_nil))
  (pss_cons (ps_while PassesOwn.never (pt_truth (pv 1) (fun _ => rfl))
  (pss_cons (ps_set (i := 3) scNo.nd rfl (.inl rfl) (pe_callB (call_minD rfl hr.units) (by rfl) T.min (by decide +kernel) (pa_cons (pe_call GLo (hr.mono (by omega)) (by rfl) DLo.g DLo.F.kp DLo.b .nil pass0 (pa_cons (pv 1) pa_nil)) pa_nil)))
  (pss_cons (ps_expr (pe_bm PySem.F.plainAttrs_list PySem.F.slot_list_remove PySem.F.type_list_remove (mt_removeD hr.units) (pv 1) (pa_cons (pv 3) pa_nil)))
  (pss_one (ps_expr (pe_bm PySem.F.plainAttrs_list PySem.F.slot_list_append PySem.F.type_list_append mt_append (pv 2) (pa_cons (pv 3) pa_nil)))))))
  (pss_one (ps_ret (pe_callTy call_tuple_of (by rfl) T.tuple (by decide +kernel) (pa_cons (pv 2) pa_nil))))))), ?_⟩
    refine ⟨.ref t, rfl, t, _, rfl, .inr (SqT.of (sG _ _ et)), fun rm nrm => ⟨by show 0 ≤ sizeLine; decide, fun od nod => ?_⟩⟩
    have k1 : Tbk tb H _ := .new (o := .lst (rows.map fun r => V.ref r.1)) tab nrm
    have rmt := tab_ne tab nrm
    have k2 : Tbk tb H _ := k1.trans (.new (o := .lst []) k1.tab nod)
    have odt := tab_ne k1.tab nod
    have rmod : rm ≠ od := ne_of_none upd_same nod
    have hod : H od = none := k1.free nod odt
    dsimp only [gName]
    unfold tSeq
    refine while_by (fun σ H1 => ∃ y3 F1 rem o1 out, σ = [some (.ref t), some (.ref rm), some (.ref od), y3] ∧ Mt tb G H F1 H1 ∧ F1 rm = none ∧ F1 od = none ∧ H1 rm = some (.lst (rem.map fun r => V.ref r.1)) ∧ H1 od = some (.lst (out.map fun r => V.ref r.1)) ∧
      rem.Sublist rows ∧ out.length + rem.length ≤ 100 ∧ (∀ o2, Norm rem o2 → Norm rows (o1 ++ o2)) ∧ out.map (fun r => r.2) = o1.map (fun r => r.2) ∧ RowsF F1 out) (fun _ H1 => lenAt rm H1) ?_ ?_ ?_
    · exact ⟨none, G, rows, [], [], rfl, ⟨k2, fun _ _ e => e, k2.same sG gt, gt, fun _ h _ => h⟩, none_of sG nrm, none_of sG hod, (upd_ne rmod).trans upd_same, upd_same, .refl _, by show 0 + _ ≤ _; omega, fun _ h => h, rfl, ⟨nofun, nofun, nofun, nofun, nofun⟩⟩
    · rintro σ H1 ⟨y3, F1, rem, o1, out, rfl, m, frm, fod, e1, e2, sub, len, nor, eo, ro⟩
      refine ⟨.ref rm, rfl, !(rem.map fun r => V.ref r.1).isEmpty, .inl ⟨_, SqL.of e1, rfl⟩, ?_⟩
      cases rem with
      | nil =>
        refine iffF rfl ?_
        refine ⟨.ref od, rfl, od, _, rfl, .inl ⟨SqL.of e2, fun p np => ?_⟩⟩
        have m2 := m.new (o := .tup (out.map fun r => V.ref r.1)) np
        refine q _ _ p out (o1 ++ []) m2 (m.k.free np (tab_ne m.k.tab np)) upd_same (nor [] .nil) (by rw [List.append_nil]; exact eo) ?_
        exact ro.more (same_upd (none_of m.s' np))
      | cons x rem =>
        refine iffT rfl ?_
        have rs : RowsF F1 (x :: rem) := (hp.sub fun r mr => sub.subset mr).more m.s
        refine ⟨.ref rm, rfl, F1, rm, x :: rem, rfl, m.s', m.ft, m.k.tab, rs, e1, rmt, by show rem.length + 1 ≤ _; rw [List.length_cons] at len; omega, fun H2 F2 p lo m2 np pt fp ep elo rlo => ?_⟩
        have lpos : lo ≠ [] := by
          intro z
          have := map_snd_len elo
          rw [z] at this
          have pos := List.length_pos_of_mem (lows_pos (r := x) (t := rem))
          rw [← this] at pos
          exact absurd pos (Nat.lt_irrefl _)
        have apr := ap.sub sub
        have inj : ∀ r ∈ lo, ∀ s ∈ lo, nmR r = nmR s → r.2 = s.2 := fun r mr s ms e => by
          obtain ⟨i, hi⟩ := List.mem_iff_getElem?.mp mr
          obtain ⟨j, hj⟩ := List.mem_iff_getElem?.mp ms
          obtain ⟨r', h1, h2⟩ := map_snd_at elo hi
          obtain ⟨s', g1, g2⟩ := map_snd_at elo hj
          have := apr.one (lows_sub (List.mem_of_getElem? h1)) (lows_sub (List.mem_of_getElem? g1)) (by rw [nmR_of h2, nmR_of g2]; exact e)
          rw [← h2, ← g2, this]
        obtain ⟨d, ds, ed⟩ : ∃ d ds, lo.map dRow = d :: ds := by
          cases lo with
          | nil => exact absurd rfl lpos
          | cons a b => exact ⟨_, _, rfl⟩
        have dpl : DpAll K H2 (lo.map fun r => V.ref r.1) (lo.map dRow) := rows_dp fun r mr => ⟨rlo.tx r mr, m2.s' _ _ (rlo.row r mr), m2.s' _ _ (rlo.doc r mr)⟩
        refine ⟨p, _, d, ds, rfl, SqL.of ep, ed ▸ dpl, ed ▸ rows_alike rlo.tx, by rw [← ed]; exact Nat.le_trans (rows_plain rlo.tx).2 (by decide), fun i v hv hi => ?_⟩
        rw [List.getElem?_map] at hv
        obtain ⟨mn, hmn, rfl⟩ := Option.map_eq_some_iff.mp hv
        have mmn := List.mem_of_getElem? hmn
        have leastL := least_at rlo.tx inj ed hmn hi
        obtain ⟨m0, hm0, em0⟩ := map_snd_at elo hmn
        have low0 : m0 ∈ lows (x :: rem) := List.mem_of_getElem? hm0
        obtain ⟨j, hj⟩ := List.mem_iff_getElem?.mp (lows_sub low0)
        have least0 : ∀ r ∈ lows (x :: rem), ¬ LtS (nmR r) (nmR m0) := fun r mr => by
          obtain ⟨i', hi'⟩ := List.mem_iff_getElem?.mp mr
          obtain ⟨r', h1, h2⟩ := map_snd_at elo.symm hi'
          rw [nmR_of em0, ← nmR_of h2]
          exact leastL r' (List.mem_of_getElem? h1)
        have e1' : H2 rm = _ := m2.k.keep _ _ rmt e1
        have e2' : H2 od = _ := m2.k.keep _ _ odt e2
        have rs2 : RowsF F2 (x :: rem) := rs.more m2.s
        refine ⟨.ref rm, rfl, .inl ⟨rfl, _, SqL.of e1'⟩, .ref mn.1, rfl, rm, _, .ref mn.1, (x :: rem).map dRow, dRow mn, j, rfl, rfl, e1', rows_dp fun r mr => ⟨rs2.tx r mr, m2.s' _ _ (rs2.row r mr), m2.s' _ _ (rs2.doc r mr)⟩, row_dp (rlo.tx mn mmn) (m2.s' _ _ (rlo.row mn mmn)) (m2.s' _ _ (rlo.doc mn mmn)), (rows_plain rs2.tx).1, (row_plain (rlo.tx mn mmn)).1, by rw [(row_plain (rlo.tx mn mmn)).2]; decide, row_place apr (rlo.tx mn mmn) hj em0, ?_⟩
        have m3 := m.trans m2
        have f2rm : F2 rm = none := m2.fr _ frm (by rw [e1]; exact fun e => nomatch e)
        have f2od : F2 od = none := m2.fr _ fod (by rw [e2]; exact fun e => nomatch e)
        have m4 := m3.put (o := .lst (((x :: rem).map fun r => V.ref r.1).eraseIdx j)) nrm rmt f2rm
        have e2'' := (upd_ne (o := HO.lst (((x :: rem).map fun r => V.ref r.1).eraseIdx j)) rmod.symm).trans e2'
        refine ⟨.ref od, rfl, .inl ⟨rfl, _, SqL.of e2''⟩, .ref mn.1, rfl, od, out.map (fun r => V.ref r.1), .ref mn.1, rfl, rfl, e2'', small1000 (by rw [List.length_map]; omega), ?_⟩
        have m5 := m4.put (o := .lst ((out.map fun r => V.ref r.1) ++ [V.ref mn.1])) hod odt f2od
        have jlt : j < (x :: rem).length := (List.getElem?_eq_some_iff.mp hj).1
        have erl : ((x :: rem).eraseIdx j).length = rem.length := by
          rw [List.length_eraseIdx, if_pos jlt]
          rfl
        have erm : ((x :: rem).map fun r => V.ref r.1).eraseIdx j = ((x :: rem).eraseIdx j).map fun r => V.ref r.1 := by
          exact erase_map _ _ _
        have e1f := (upd_ne (o := HO.lst ((out.map fun r => V.ref r.1) ++ [V.ref mn.1])) rmod).trans (upd_same (H := H2) (o := HO.lst (((x :: rem).map fun r => V.ref r.1).eraseIdx j)))
        refine ⟨⟨_, F2, (x :: rem).eraseIdx j, o1 ++ [m0], out ++ [mn], rfl, m5, f2rm, f2od, by rw [← erm]; exact e1f, by rw [List.map_append]; exact upd_same, (List.eraseIdx_sublist _ _).trans sub, ?_, ?_, ?_, ?_⟩, ?_⟩
        · rw [List.length_append, erl]
          rw [List.length_cons] at len
          show out.length + 1 + _ ≤ _
          omega
        · intro o2 h
          rw [List.append_assoc]
          exact nor _ (.cons hj low0 least0 h)
        · rw [List.map_append, List.map_append, eo]
          show _ ++ [mn.2] = _ ++ [m0.2]
          rw [em0]
        · have ro' := ro.more m2.s
          have sp : ∀ {A : Row → Prop}, (∀ y ∈ out, A y) → A mn → ∀ y ∈ out ++ [mn], A y := fun h h' y my => by
            rcases List.mem_append.mp my with z | z
            · exact h y z
            · rw [List.mem_singleton.mp z]
              exact h'
          exact ⟨sp ro'.row (rlo.row mn mmn), sp ro'.doc (rlo.doc mn mmn), sp ro'.flat (rlo.flat mn mmn), sp ro'.few (rlo.few mn mmn), sp ro'.tx (rlo.tx mn mmn)⟩
        · rw [lenAt_of e1f, lenAt_of e1, List.length_map, erm, List.length_map, erl]
          exact Nat.lt_succ_self _
    · rintro σ H1 Q Q' h ⟨v, e, kk, tr, qq⟩
      exact ⟨v, e, kk, tr, h _ _ qq⟩
end
section
variable {K : PySem.W.Frag} {α : Type} {l : List α} {enc out : α → V} {p : α → Bool} {a : Addr} {g : TG} {tt : L2.TT} {te : TE} {vs : List Nat} {σ : L2.St} {H1 : Hp} {D : Addr} {Qd : Hp → Prop}
theorem filt_turn (hD : H1 D = none) (sm : l.length ≤ 1000) (hs : ∀ x ∈ l, ∀ J, Same H1 J → ∀ R : L2.St → Hp → Prop, (∀ σ2, wipe σ2 vs = wipe σ vs → (∀ Q, Q (p x) J → tt σ2 J Q) → (∀ Q, Q (out x) J → te σ2 J Q) → R σ2 J) → g (enc x) (wipe σ vs) J R)
    (i : Nat) (v : V) (J : Hp) (hx : (l.map enc)[i]? = some v) (hp : J D = some (.lst (((l.take i).filter p).map out)) ∧ Same H1 J) :
    g v (wipe σ vs) J fun σ2 H2 => wipe σ2 vs = wipe σ vs ∧ tt σ2 H2 fun b H3 =>
      if b = true then te σ2 H3 fun y H4 => ∃ acc, H4 D = some (.lst acc) ∧ acc.length < sizeLine ∧ ((upd H4 D (.lst (acc ++ [y]))) D = some (.lst (((l.take (i + 1)).filter p).map out)) ∧ Same H1 (upd H4 D (.lst (acc ++ [y])))) else (H3 D = some (.lst (((l.take (i + 1)).filter p).map out)) ∧ Same H1 H3) := by
  obtain ⟨eD, s2⟩ := hp
  rw [List.getElem?_map] at hx
  obtain ⟨x, hx1, rfl⟩ := Option.map_eq_some_iff.mp hx
  have mx := List.mem_of_getElem? hx1
  have tk : (l.take (i + 1)).filter p = (l.take i).filter p ++ (if p x = true then [x] else []) := by
    rw [List.take_add_one, hx1, List.filter_append]
    show _ ++ List.filter _ [x] = _
    rw [List.filter_cons, List.filter_nil]
  refine hs x mx J s2 _ fun σ2 h1 h2 h3 => ⟨h1, h2 _ ?_⟩
  by_cases hb : p x = true
  · rw [if_pos hb]
    refine h3 _ ⟨_, eD, ?_, ?_, same_put s2 hD⟩
    · rw [List.length_map]
      have := List.length_filter_le p (l.take i)
      rw [List.length_take] at this
      exact small1000 (by omega)
    · rw [upd_same, tk, if_pos hb, List.map_append]
      rfl
  · rw [if_neg hb]
    refine ⟨?_, s2⟩
    rw [tk, if_neg hb, List.append_nil]
    exact eD
theorem filt_list (ea : H1 a = some (.lst (l.map enc))) (hD : H1 D = none) (sm : l.length ≤ 1000) (hs : ∀ x ∈ l, ∀ J, Same H1 J → ∀ R : L2.St → Hp → Prop, (∀ σ2, wipe σ2 vs = wipe σ vs → (∀ Q, Q (p x) J → tt σ2 J Q) → (∀ Q, Q (out x) J → te σ2 J Q) → R σ2 J) → g (enc x) (wipe σ vs) J R)
    (hd : ∀ J, J D = some (.lst ((l.filter p).map out)) → Same H1 J → Qd J) :
    ∃ W : Nat → Nat → Hp → Prop, (∃ m, W 0 m (upd H1 D (.lst []))) ∧ ∀ i m H, W i m H →
      ((L2.Itl K a).stop i H ∧ Qd H) ∨ ((L2.Itl K a).go i H ∧ ∃ Nx : Hp → Prop, (∀ H', Nx H' → ∃ m', m' < m ∧ W (i + 1) m' H') ∧ ∀ x H', (L2.Itl K a).yld i H x H' → g x (wipe σ vs) H' fun σ2 H2 => wipe σ2 vs = wipe σ vs ∧ tt σ2 H2 fun b H3 =>
        if b = true then te σ2 H3 fun y H4 => ∃ acc, H4 D = some (.lst acc) ∧ acc.length < sizeLine ∧ Nx (upd H4 D (.lst (acc ++ [y]))) else Nx H3) := by
  refine lc_list (K := K) (a := a) (xs := l.map enc) (fun i J => J D = some (.lst (((l.take i).filter p).map out)) ∧ Same H1 J) ⟨upd_same, same_upd hD⟩ (fun i J _ h => SqL.of (h.2 _ _ ea)) (fun i x J hx h => filt_turn hD sm hs i x J hx h) fun J h => ?_
  have h1 := h.1
  rw [List.length_map, List.take_length] at h1
  exact hd J h1 h.2
theorem filt_tup (ea : H1 a = some (.tup (l.map enc))) (hD : H1 D = none) (sm : l.length ≤ 1000) (hs : ∀ x ∈ l, ∀ J, Same H1 J → ∀ R : L2.St → Hp → Prop, (∀ σ2, wipe σ2 vs = wipe σ vs → (∀ Q, Q (p x) J → tt σ2 J Q) → (∀ Q, Q (out x) J → te σ2 J Q) → R σ2 J) → g (enc x) (wipe σ vs) J R)
    (hd : ∀ J, J D = some (.lst ((l.filter p).map out)) → Same H1 J → Qd J) :
    ∃ W : Nat → Nat → Hp → Prop, (∃ m, W 0 m (upd H1 D (.lst []))) ∧ ∀ i m H, W i m H →
      ((L2.Itt K a).stop i H ∧ Qd H) ∨ ((L2.Itt K a).go i H ∧ ∃ Nx : Hp → Prop, (∀ H', Nx H' → ∃ m', m' < m ∧ W (i + 1) m' H') ∧ ∀ x H', (L2.Itt K a).yld i H x H' → g x (wipe σ vs) H' fun σ2 H2 => wipe σ2 vs = wipe σ vs ∧ tt σ2 H2 fun b H3 =>
        if b = true then te σ2 H3 fun y H4 => ∃ acc, H4 D = some (.lst acc) ∧ acc.length < sizeLine ∧ Nx (upd H4 D (.lst (acc ++ [y]))) else Nx H3) := by
  refine lc_tup (K := K) (a := a) (xs := l.map enc) (fun i J => J D = some (.lst (((l.take i).filter p).map out)) ∧ Same H1 J) ⟨upd_same, same_upd hD⟩ (fun i J _ h => SqT.of (h.2 _ _ ea)) (fun i x J hx h => filt_turn hD sm hs i x J hx h) fun J h => ?_
  have h1 := h.1
  rw [List.length_map, List.take_length] at h1
  exact hd J h1 h.2
end
theorem Tbk.draw {tb p : Addr} {H J J' : Hp} (k : Tbk tb H J) (n : H p = none) (np : tb ≠ p) (u : Upto p J J') : Tbk tb H J' := by
  refine ⟨fun b o nb e => u b o (ne_of_none e n) (k.keep b o nb e), ?_⟩
  obtain ⟨ps, h, t⟩ := k.tab
  exact ⟨ps, u _ _ np h, t⟩
theorem Tbk.same_ {tb : Addr} {H J J' : Hp} (k : Tbk tb H J) (s : Same J J') : Tbk tb H J' := by
  refine ⟨fun b o nb e => s _ _ (k.keep b o nb e), ?_⟩
  obtain ⟨ps, h, t⟩ := k.tab
  exact ⟨ps, s _ _ h, t⟩
/-- a view without the table -/
def off (tb : Addr) (F : Hp) : Hp := fun b => if b = tb then none else F b
theorem off_tb {tb : Addr} {F : Hp} : off tb F tb = none := if_pos rfl
theorem off_at {tb b : Addr} {F : Hp} (h : b ≠ tb) : off tb F b = F b := if_neg h
theorem off_same {tb : Addr} {F J : Hp} (s : Same F J) : Same (off tb F) J := fun b o e => by
  by_cases h : b = tb
  · rw [h, off_tb] at e
    cases e
  · rw [off_at h] at e
    exact s _ _ e
theorem off_tup {tb b : Addr} {F J : Hp} {xs : List V} (s : Same F J) (t : GxR.TabG J tb) (e : F b = some (.tup xs)) : off tb F b = some (.tup xs) := by
  rw [off_at fun h => ?_]
  · exact e
  · obtain ⟨ps, h2, _⟩ := t
    rw [← h, s _ _ e] at h2
    cases h2
theorem HeapIn.off {tb t : Addr} {F J : Hp} {rows : List Row} (h : HeapIn F t rows) (s : Same F J) (tt : GxR.TabG J tb) : HeapIn (off tb F) t rows :=
  ⟨off_tup s tt h.at_, fun r m => off_tup s tt (h.row r m), fun r m => off_tup s tt (h.doc r m), h.flat, h.few⟩
section
variable {P : Program} {w : World} {K : PySem.W.Frag} {mg : Str → Option Value} {base : Heap}
theorem seq_tbk {K : PySem.W.Frag} {tb a : Addr} {H H1 : Hp} {xs : List V} (t : Tbk tb H H1) (tab : GxR.TabG H tb) (h : SqL K H a xs) : SqL K H1 a xs := by
  have no : ∀ {o : HO}, H a = some o → (∀ qs, o ≠ .tbl qs) → a ≠ tb := fun {o} eo ne e => by
    obtain ⟨ps, h2, _⟩ := tab
    rw [e, h2] at eo
    exact ne ps (Option.some.inj eo).symm
  rcases h with (h | ⟨o, h⟩) | h
  · exact .inl (.inl (t.keep _ _ (no h (fun _ z => nomatch z)) h))
  · exact .inl (.inr ⟨o, t.keep _ _ (no h (fun _ z => nomatch z)) h⟩)
  · exact .inr h
end
end Cu

namespace Cu
/-! ### lists that differ only in the order of what does not meet -/
section
variable {α δ : Type} {t : α → α → Bool} {hs : δ → α → Bool}
/-- two meet exactly if both have something -/
def Doc (t : α → α → Bool) (hs : δ → α → Bool) (l : List α) : Prop := ∀ a ∈ l, ∀ b ∈ l, t a b = true ↔ ∃ z, hs z a = true ∧ hs z b = true
theorem Doc.sub {l l' : List α} (h : Doc t hs l) (s : ∀ a ∈ l', a ∈ l) : Doc t hs l' := fun a ma b mb => h a (s a ma) b (s b mb)
/-- the same rows, each list the same -/
structure LEq (hs : δ → α → Bool) (l l' : List α) : Prop where
  perm : l.Perm l'
  lists : ∀ z, l.filter (hs z) = l'.filter (hs z)
theorem LEq.refl (l : List α) : LEq hs l l := ⟨.refl _, fun _ => rfl⟩
theorem LEq.symm {l l' : List α} (h : LEq hs l l') : LEq hs l' l := ⟨h.perm.symm, fun z => (h.lists z).symm⟩
theorem LEq.trans {l l' l'' : List α} (h : LEq hs l l') (g : LEq hs l' l'') : LEq hs l l'' := ⟨h.perm.trans g.perm, fun z => (h.lists z).trans (g.lists z)⟩
theorem LEq.filter {l l' : List α} (h : LEq hs l l') (p : α → Bool) : LEq hs (l.filter p) (l'.filter p) := by
  refine ⟨h.perm.filter p, fun z => ?_⟩
  rw [List.filter_filter, List.filter_filter]
  have e : ∀ m : List α, m.filter (fun a => hs z a && p a) = (m.filter (hs z)).filter p := fun m => by
    rw [List.filter_filter]
    congr 1
    funext a
    exact Bool.and_comm _ _
  rw [e, e, h.lists z]
theorem LEq.bef {l l' : List α} (h : LEq hs l l') (d : Doc t hs l) {a b : α} (s : [a, b].Sublist l) (m : t b a = true) : [a, b].Sublist l' := by
  have ma : a ∈ l := s.subset (by simp)
  have mb : b ∈ l := s.subset (by simp)
  obtain ⟨z, hb, ha⟩ := (d b mb a ma).mp m
  have e : [a, b].filter (hs z) = [a, b] := by
    rw [List.filter_cons_of_pos ha, List.filter_cons_of_pos hb]
    rfl
  have s2 := s.filter (hs z)
  rw [e, h.lists z] at s2
  exact s2.trans List.filter_sublist
theorem self_path {l : List α} {x : α} (m : x ∈ l) : Path t l x x := by
  obtain ⟨a, b, e⟩ := List.append_of_mem m
  rw [e]
  clear e
  induction b using snoc_ind with
  | h0 => exact .here a x
  | h1 b r ih =>
    rw [show a ++ x :: (b ++ [r]) = (a ++ x :: b) ++ [r] by simp]
    exact .keep r ih
theorem path_sub {l : List α} {x y : α} (s : [x, y].Sublist l) (m : t y x = true) : Path t l x y := by
  induction l using snoc_ind with
  | h0 => cases s
  | h1 l r ih =>
    rcases List.sublist_append_iff.mp s with ⟨l1, l2, e, s1, s2⟩
    cases l2 with
    | nil =>
      rw [List.append_nil] at e
      rw [← e] at s1
      exact .keep r (ih s1)
    | cons b l2 =>
      have hb : b = r ∧ l2 = [] := by
        cases s2 with
        | cons _ s2 => cases s2
        | cons_cons _ s2 =>
          cases s2
          exact ⟨rfl, rfl⟩
      obtain ⟨rfl, rfl⟩ := hb
      have e1 : [x] ++ [y] = l1 ++ [b] := e
      obtain ⟨rfl, e2⟩ := List.append_inj' e1 rfl
      cases e2
      exact .next _ (self_path (s1.subset (by simp))) m
theorem path_move {l l' : List α} {x y : α} (nd : l'.Nodup) (h : Path t l x y) : (∀ a b, [a, b].Sublist l → t b a = true → [a, b].Sublist l') → (∀ a ∈ l, a ∈ l') → Path t l' x y := by
  induction h with
  | here l r =>
    intro _ g
    exact self_path (g r (by simp))
  | @next l x y r p e ih =>
    intro f g
    have p1 := ih (fun a b s => f a b (s.trans (List.sublist_append_left _ _))) (fun a m => g a (List.mem_append_left _ m))
    have s : [y, r].Sublist (l ++ [r]) := (List.singleton_sublist.mpr (path_mem p).2).append (List.Sublist.refl [r])
    exact path_trans nd p1 (path_sub (f y r s e) e)
  | @keep l x y r p ih =>
    intro f g
    exact ih (fun a b s => f a b (s.trans (List.sublist_append_left _ _))) (fun a m => g a (List.mem_append_left _ m))
theorem LEq.path {l l' : List α} (h : LEq hs l l') (d : Doc t hs l) (nd : l.Nodup) {x y : α} : Path t l x y ↔ Path t l' x y := by
  have nd' := h.perm.nodup_iff.mp nd
  have d' : Doc t hs l' := d.sub fun a m => h.perm.symm.subset m
  exact ⟨fun p => path_move nd' p (fun a b s => h.bef d s) (fun a m => h.perm.subset m), fun p => path_move nd p (fun a b s => h.symm.bef d' s) (fun a m => h.perm.symm.subset m)⟩
/-- what meets none ahead of it -/
def Low (t : α → α → Bool) (l : List α) (r : α) : Prop := ∃ l1 l2, l = l1 ++ r :: l2 ∧ ∀ w ∈ l1, t r w = false
theorem low_iff {l : List α} {r : α} (nd : l.Nodup) : Low t l r ↔ r ∈ l ∧ ∀ w, [w, r].Sublist l → t r w = false := by
  constructor
  · rintro ⟨l1, l2, rfl, h⟩
    refine ⟨by simp, fun w s => ?_⟩
    refine h w ?_
    have n2 := List.nodup_append.mp nd
    rcases List.sublist_append_iff.mp s with ⟨a, b, e, s1, s2⟩
    cases a with
    | nil =>
      have e' : [w, r] = b := e
      subst e'
      have nr := (List.nodup_cons.mp n2.2.1).1
      cases s2 with
      | cons _ s2 => exact absurd (s2.subset (by simp)) nr
      | cons_cons _ s2 => exact absurd (s2.subset (by simp)) nr
    | cons x a =>
      have e' : w = x := (List.cons.inj e).1
      rw [e']
      exact s1.subset List.mem_cons_self
  · rintro ⟨m, h⟩
    obtain ⟨l1, l2, e⟩ := List.append_of_mem m
    refine ⟨l1, l2, e, fun w mw => h w ?_⟩
    rw [e]
    exact (List.singleton_sublist.mpr mw).append (List.singleton_sublist.mpr (by simp))
theorem LEq.low {l l' : List α} (h : LEq hs l l') (d : Doc t hs l) (nd : l.Nodup) {r : α} (g : Low t l r) : Low t l' r := by
  have nd' := h.perm.nodup_iff.mp nd
  have d' : Doc t hs l' := d.sub fun a m => h.perm.symm.subset m
  obtain ⟨m, g⟩ := (low_iff nd).mp g
  refine (low_iff nd').mpr ⟨h.perm.subset m, fun w s => ?_⟩
  cases e : t r w with
  | false => rfl
  | true =>
    have := g w (h.symm.bef d' s e)
    rw [e] at this
    cases this
/-- the lowest taken to the front -/
theorem low_front {l l1 l2 : List α} {r : α} (e : l = l1 ++ r :: l2) (h : ∀ w ∈ l1, t r w = false) (d : Doc t hs l) : LEq hs l (r :: (l1 ++ l2)) := by
  refine ⟨by rw [e]; exact List.perm_middle, fun z => ?_⟩
  rw [e, List.filter_append]
  cases hz : hs z r with
  | false =>
    rw [List.filter_cons_of_neg (by rw [hz]; exact Bool.false_ne_true), List.filter_cons_of_neg (by rw [hz]; exact Bool.false_ne_true), List.filter_append]
  | true =>
    have n : l1.filter (hs z) = [] := by
      rw [List.filter_eq_nil_iff]
      intro w mw hw
      have := (d r (by rw [e]; simp) w (by rw [e]; simp [mw])).mpr ⟨z, hz, hw⟩
      rw [h w mw] at this
      cases this
    rw [List.filter_cons_of_pos hz, List.filter_cons_of_pos hz, List.filter_append, n]
    rfl
theorem LEq.cons {l l' : List α} (r : α) (h : LEq hs l l') : LEq hs (r :: l) (r :: l') := by
  refine ⟨h.perm.cons r, fun z => ?_⟩
  cases hz : hs z r with
  | false => rw [List.filter_cons_of_neg (by rw [hz]; exact Bool.false_ne_true), List.filter_cons_of_neg (by rw [hz]; exact Bool.false_ne_true), h.lists z]
  | true => rw [List.filter_cons_of_pos hz, List.filter_cons_of_pos hz, h.lists z]
end
/-! ### all orders -/
section
variable {α : Type}
def insAt (r : α) (l : List α) (i : Nat) : List α := l.take i ++ [r] ++ l.drop i
def ins (r : α) (l : List α) : List (List α) := (List.range (l.length + 1)).map (insAt r l)
def orders (rows : List α) : List (List α) := rows.foldl (fun acc r => acc.flatMap (ins r)) [[]]
theorem orders_snoc (l : List α) (r : α) : orders (l ++ [r]) = (orders l).flatMap (ins r) := by
  unfold orders
  rw [List.foldl_append]
  rfl
theorem insAt_perm (r : α) (l : List α) (i : Nat) : (insAt r l i).Perm (l ++ [r]) := by
  unfold insAt
  have e := List.take_append_drop i l
  refine List.Perm.trans (l₂ := (l.take i ++ l.drop i) ++ [r]) ?_ (by rw [e])
  rw [List.append_assoc, List.append_assoc]
  exact List.Perm.append_left _ List.perm_append_comm
theorem mem_ins {r : α} {l x : List α} : x ∈ ins r l ↔ ∃ i, i ≤ l.length ∧ x = insAt r l i := by
  unfold ins
  rw [List.mem_map]
  constructor
  · rintro ⟨i, m, rfl⟩
    exact ⟨i, Nat.le_of_lt_succ (List.mem_range.mp m), rfl⟩
  · rintro ⟨i, m, rfl⟩
    exact ⟨i, List.mem_range.mpr (Nat.lt_succ_of_le m), rfl⟩
theorem mem_orders (rows : List α) : ∀ x, x ∈ orders rows ↔ x.Perm rows := by
  induction rows using snoc_ind with
  | h0 =>
    intro x
    show x ∈ [[]] ↔ _
    rw [List.mem_singleton]
    exact ⟨fun e => by rw [e], fun p => p.eq_nil⟩
  | h1 l r ih =>
    intro x
    rw [orders_snoc, List.mem_flatMap]
    constructor
    · rintro ⟨y, my, mx⟩
      obtain ⟨i, _, rfl⟩ := mem_ins.mp mx
      exact (insAt_perm r y i).trans (List.Perm.append_right _ ((ih y).mp my))
    · intro p
      have mr : r ∈ x := p.symm.subset (by simp)
      obtain ⟨a, b, e⟩ := List.append_of_mem mr
      have p2 : (a ++ b).Perm l := by
        have : (r :: (a ++ b)).Perm (r :: l) := by
          refine List.Perm.trans List.perm_middle.symm ?_
          rw [← e]
          exact p.trans List.perm_append_comm
        exact this.cons_inv
      refine ⟨a ++ b, (ih _).mpr p2, mem_ins.mpr ⟨a.length, by rw [List.length_append]; omega, ?_⟩⟩
      rw [e]
      unfold insAt
      rw [List.take_left, List.drop_left, List.append_assoc]
      rfl
theorem orders_len (rows : List α) : (orders rows).length = Nat.rec 1 (fun n m => (n + 1) * m) rows.length := by
  induction rows using snoc_ind with
  | h0 => rfl
  | h1 l r ih =>
    rw [orders_snoc, List.length_append]
    have h : ∀ (ys : List (List α)), (∀ y ∈ ys, y.length = l.length) → (ys.flatMap (ins r)).length = (l.length + 1) * ys.length := by
      intro ys
      induction ys with
      | nil => intro _; rfl
      | cons y ys ih2 =>
        intro hy
        rw [List.flatMap_cons, List.length_append, ih2 (fun z m => hy z (List.mem_cons_of_mem _ m)), List.length_cons, Nat.mul_succ]
        have : (ins r y).length = l.length + 1 := by
          unfold ins
          rw [List.length_map, List.length_range, hy y List.mem_cons_self]
        omega
    rw [h _ (fun y m => ((mem_orders l y).mp m).length_eq), ih]
    rfl
end
end Cu

namespace Cu
open PySem PySem.Spec PyProof.Rows L2
/-! ### dicts compared whose values are data -/
/-- the entry of one in the other -/
def hitD (f : V → PyData) (ls : List (Key × V)) (p : Key × V) : Bool := match valV ls p.1 with
  | none => false
  | some u => PyData.eqv (f p.2) (f u)
theorem val_mem {ls : List (Key × V)} {k : Key} {u : V} (h : valV ls k = some u) : (k, u) ∈ ls := by
  unfold valV at h
  obtain ⟨kv, h1, rfl⟩ := Option.map_eq_some_iff.mp h
  have h2 := List.find?_some h1
  have h3 : kv.1 = k := of_decide_eq_true h2
  rw [← h3]
  exact List.mem_of_find?_eq_some h1
section
variable {X : Cx} {pins : List (Addr × Obj)} {σ : L2.St} {H : Hp} {s : Shared}
theorem hits_data (I : Inv X pins σ H s) {A : Around} (hu : A.units + 61 < cLine) {f : V → PyData} {ls : List (Key × V)} {vb : List (Key × Value)} (rb : KV ls vb) (hl : ∀ p ∈ ls, Dp X.K H p.2 (f p.2) ∧ (f p.2).canLay0 = true ∧ (f p.2).depth ≤ 50) {ks : List (Key × V)} {va : List (Key × Value)} (ra : KV ks va) :
    (∀ p ∈ ks, Dp X.K H p.2 (f p.2) ∧ (f p.2).canLay0 = true ∧ (f p.2).depth ≤ 50) → PySem.W.KeqHits A s vb va (ks.all (hitD f ls)) := by
  unfold KV at ra
  induction ra with
  | nil => intro _; exact .nil
  | @cons p q ps qs h t ih =>
    intro hp
    obtain ⟨h1, h2⟩ := h
    obtain ⟨key, v⟩ := q
    have h1' : p.1 = key := h1
    have rr := rb.val p.1
    rw [List.all_cons]
    unfold hitD
    cases e : valV ls p.1 with
    | none =>
      rw [e] at rr
      have hn := rr.none_of
      rw [h1'] at hn
      exact .miss hn
    | some u =>
      rw [e] at rr
      obtain ⟨y, hy, ry⟩ := rr.some_of
      rw [h1'] at hy
      obtain ⟨d1, s1⟩ := hp p List.mem_cons_self
      obtain ⟨d2, s2⟩ := hl _ (val_mem e)
      obtain ⟨as, r1⟩ := Dp.reads I _ _ _ d1 h2
      obtain ⟨bs, r2⟩ := Dp.reads I _ _ _ d2 ry
      refine .hit hy (SeqAt.eqAt_reads _ _ A s _ _ _ _ r1 r2 s1.1 s2.1 ?_) (ih fun p' m => hp p' (List.mem_cons_of_mem _ m))
      have := s1.2
      have : min (f p.2).depth (f u).depth ≤ (f p.2).depth := Nat.min_le_left _ _
      omega
end
section
variable {X : Cx}
def rEqDv (K : PySem.W.Frag) : R2 := fun x y H Q => ∃ (f : V → PyData) (a b : Addr) (ks ls : List (Key × V)), x = .ref a ∧ y = .ref b ∧ H a = some (.dK ks) ∧ H b = some (.dK ls) ∧ (∀ p ∈ ks, Dp K H p.2 (f p.2) ∧ (f p.2).canLay0 = true ∧ (f p.2).depth ≤ 50) ∧ (∀ p ∈ ls, Dp K H p.2 (f p.2) ∧ (f p.2).canLay0 = true ∧ (f p.2).depth ≤ 50) ∧
  Q (.bl (ks.length == ls.length && ks.all (hitD f ls))) H
theorem op_eqDv (hu : X.A.units + 64 < cLine) : OpR X (compareOp .Eq) (rEqDv X.K) := by
  intro pins s σ H x y v u Q I rx ry h
  obtain ⟨f, a, b, ks, ls, rfl, rfl, ea, eb, h1, h2, q⟩ := h
  obtain rfl : v = Value.ref a := rx
  obtain rfl : u = Value.ref b := ry
  obtain ⟨_, ya, va, ra, da⟩ := (show ObjOk X.prog X.w H s.heap a (.dK ks) from I.hok a _ ea)
  obtain ⟨_, yb, vb, rb, db⟩ := (show ObjOk X.prog X.w H s.heap b (.dK ls) from I.hok b _ eb)
  refine PySem.W.keq_eq (knd := mixKind X.prog X.w) (r := ks.all (hitD f ls)) ya yb da db (by omega) (fun _ => hits_data I (by show X.A.units + 1 + 61 < cLine; omega) rb h2 ra h1) (fin_bl I q ?_)
  rw [← ra.length, ← rb.length]
end
/-! ### slices and sums of tuples, whichever object they are -/
theorem cut_wh {xs : List V} {lo hi : Option Int} (h : HT.sIx xs.length 0 lo = 0 ∧ HT.sIx xs.length xs.length hi = xs.length) : cutV xs lo hi = xs := by
  unfold cutV
  rw [h.1, h.2, List.drop_zero, Nat.sub_zero, List.take_length]
theorem cut_tk (xs : List V) (i : Nat) : cutV xs none (some (i : Int)) = xs.take i := by
  have e1 : HT.sIx xs.length 0 none = 0 := rfl
  have e2 : HT.sIx xs.length xs.length (some (i : Int)) = min i xs.length := by
    show (if (i : Int) < 0 then ((i : Int) + xs.length).toNat else min (i : Int).toNat xs.length) = _
    rw [if_neg (by omega), Int.toNat_natCast]
  unfold cutV
  rw [e1, e2, List.drop_zero, Nat.sub_zero]
  by_cases h : i ≤ xs.length
  · rw [Nat.min_eq_left h]
  · rw [Nat.min_eq_right (by omega), List.take_length, List.take_of_length_le (by omega)]
theorem cut_dr (xs : List V) (i : Nat) : cutV xs (some (i : Int)) none = xs.drop i := by
  have e1 : HT.sIx xs.length xs.length none = xs.length := rfl
  have e2 : HT.sIx xs.length 0 (some (i : Int)) = min i xs.length := by
    show (if (i : Int) < 0 then ((i : Int) + xs.length).toNat else min (i : Int).toNat xs.length) = _
    rw [if_neg (by omega), Int.toNat_natCast]
  unfold cutV
  rw [e1, e2]
  by_cases h : i ≤ xs.length
  · rw [Nat.min_eq_left h, List.take_of_length_le (by rw [List.length_drop]; omega)]
  · rw [Nat.min_eq_right (by omega), List.drop_length, Nat.sub_self, List.take_nil, List.drop_eq_nil_of_le (by omega)]
theorem sliceX {K : PySem.W.Frag} {t : Addr} {H : Hp} {xs : List V} {lo hi : Option Int} {Q : VK} (e : H t = some (.tup xs))
    (q : ∀ H' v, Same H H' → H' v = some (.tup (cutV xs lo hi)) → Q (.ref v) H') : rSlA K (.ref t) lo hi H Q := by
  refine ⟨t, xs, rfl, SqT.of e, fun hw => ?_, fun _ p n => ?_⟩
  · exact q H t (Same.refl _) (by rw [cut_wh hw]; exact e)
  · exact q _ p (same_upd n) upd_same
theorem catX {K : PySem.W.Frag} {t u : Addr} {H : Hp} {xs ys : List V} {Q : VK} (e1 : H t = some (.tup xs)) (e2 : H u = some (.tup ys)) (len : xs.length + ys.length ≤ 1000)
    (q : ∀ H' v, Same H H' → H' v = some (.tup (xs ++ ys)) → Q (.ref v) H') : rCatA K (.ref t) (.ref u) H Q := by
  refine ⟨t, u, xs, ys, rfl, rfl, SqT.of e1, SqT.of e2, Nat.le_trans len (by decide), fun h => ?_, fun _ h => ?_, fun _ _ p n => ?_⟩
  · subst h
    exact q H u (Same.refl _) e2
  · subst h
    exact q H t (Same.refl _) (by rw [List.append_nil]; exact e1)
  · exact q _ p (same_upd n) upd_same
end Cu

namespace Cu
open PySem PySem.Spec PyProof.Rows L2
/-! ### tuple(x for x in xs if x in ys), with not in too -/
/-- tests and element change nothing -/
def CalmF (X : Cx) (P : Addr) (scope : Scope) (x : Str) (ifs : List Expr) (elt : Expr) (s1 : Shared) (Pt : Nat → Value → Prop) (pz : Nat → Bool) (F : Nat → Value → Prop) : Prop :=
  ∀ (cenv : Env) (A' : Around) (E' : Value → Shared → Prop) (i : Nat) (v : Value) (s2 : Shared) (m2 : Str → Option Value), cenv.scope = scope → cenv.globals = X.env.globals → cenv.builtins = builtinsNs → cenv.cells = cloFrom X.env.cells scope.names [] →
    A'.handled = none → Pt i v → s2.heap.Ns cenv.locals m2 → m2 x = some v → (∀ b u, b ≠ P → s1.heap.get? b = some u → s2.heap.get? b = some u) →
    wpAny (model X.prog X.w) A' (forIn ifs true fun c r => if r = true then do let ok ← isTrue c cenv (eval c cenv); pure (ForInStep.yield ok) else pure (ForInStep.yield r)) (fun ok s3 => ok = pz i ∧ Keeps s2 s3) E' s2 ∧
    (pz i = true → wpAny (model X.prog X.w) A' (eval elt cenv) (fun y s3 => F i y ∧ Keeps s2 s3) E' s2)
section
variable {X : Cx} {pins : List (Addr × Obj)} {σ : L2.St} {H : Hp} {s : Shared}
theorem gen_makeF {c P : Addr} {elt iter : Expr} {x : Str} {px gpos : Pos} {ifs : List Expr} {scope : Scope} {te : TE} {k : Nat} {Q' : Value → Shared → Prop} {R : V → Hp → Prop}
    (hr : Room k X.A) (TB : GxR.TabB X.base X.mg c P) (hcode : X.env.code = .ref c) (S : GxR.GenS X.env scope x) (hi : PE X iter te) (hs : ∀ v, genFold iter X.env v = pure v) (I : Inv X pins σ H s)
    (h : te σ H fun v H1 => GxR.TabG H1 P ∧ R v H1)
    (src : ∀ v H1 s1 u, R v H1 → GxR.TabG H1 P → Inv X pins σ H1 s1 → RelV v u → P < s1.heap.objs.size → ∃ n Pt pz F, Src X.prog X.w P s1 u n Pt ∧ CalmF X P scope x ifs elt s1 Pt pz F ∧
      ∀ g s5, SetT X pins σ H1 P (passing pz n 0).length (fun j y => ∃ i, (passing pz n 0)[j]? = some i ∧ F i y) g s5 → Q' (.ref g) s5) :
    wpAny (model X.prog X.w) X.A (eval (.GeneratorExp elt [⟨.Name x px, iter, ifs, 0⟩] scope gpos) X.env) Q' X.xe s := by
  have dp : X.A.depth < recursionLimit := by
    have := hr.dp
    omega
  apply wpAny_GeneratorExp_walksQ hr.hd S.co (closure_ok S.free) S.cell S.dot S.loc S.kind dp _ hs
  refine thn (hi.run pins s σ H _ I h) ?_
  rintro xv s1 ⟨v, H1, I1, r1, tab, hR⟩
  obtain ⟨ps, hP, tr⟩ := id tab
  have isP : s1.heap.get? P = some { cls := .none, data := .fields ps } := I1.hok P _ hP
  have ltP : P < s1.heap.objs.size := Heap.lt_size isP
  obtain ⟨n, Pt, pz, F, sc, calm, fin⟩ := src v H1 s1 xv hR tab I1 r1 ltP
  apply sc _ _ _ _ hr.hd
  intro o fp go W st hfp
  have isP2 : (s1.heap.push o).get? P = some { cls := .none, data := .fields ps } := Heap.get?_push_of_some _ isP
  have cd : PySem.W.CodeHd (s1.heap.push o) c P := TB.code.keeps fun b u e => Heap.get?_push_of_some _ (I1.bk b u e)
  have lim2 := I1.nolimit.push o
  refine And.intro lim2 ?_
  have rest : ∀ (code : Value) (h3 : Heap) (tk : Nat) (qs : Array Value), Heap.ExtBut P (s1.heap.push o) h3 → (s1.heap.push o).objs.size ≤ h3.objs.size → h3.get? P = some { cls := .none, data := .fields qs } → (∃ more, qs = ps ++ more) → TriplesOk qs.toList →
      wpAny (model X.prog X.w) X.A (builtinsFor X.env.globals X.env.builtins) (fun bi s4 =>
        ∃ it fp wr n₀ Pt St₀ pz F, Value.ref s1.heap.objs.size = .ref it ∧ (∀ A' : Around, A'.handled = none → Walks X.prog X.w A' it fp wr n₀ Pt St₀) ∧ St₀ 0 s4.heap ∧ (∀ b ∈ fp, b < s4.heap.objs.size) ∧ s4.heap.NoLimit ∧ cStatics ∉ wr ∧
          (∀ href : Heap, (∀ b o, s4.heap.get? b = some o → href.get? b = some o) → QuietGen X.prog X.w (genEnv scope (cloFrom X.env.cells scope.names []) s4.heap.objs.size code bi X.env) x ifs elt (List.range s4.heap.objs.size) wr Pt pz F href) ∧
          (∀ a h₅ tk gs, gs.bare = true → s4.heap.objs.size < a → h₅.objs.size = a + 1 → (∀ b o, s4.heap.get? b = some o → h₅.get? b = some o) →
            WalksS X.prog X.w X.A.in4 a (a :: s4.heap.objs.size :: List.range s4.heap.objs.size) (s4.heap.objs.size :: wr) (GenOnlyQ s4.gens.size) (passing pz n₀ 0).length
              (fun j y => ∃ i, (passing pz n₀ 0)[j]? = some i ∧ F i y) (GenAt X.prog X.w X.A.in4 a s4.gens.size s4.heap.objs.size (List.range s4.heap.objs.size) wr pz n₀ F) →
            GenAt X.prog X.w X.A.in4 a s4.gens.size s4.heap.objs.size (List.range s4.heap.objs.size) wr pz n₀ F 0 { s4 with gens := s4.gens.push gs, toks := tk, heap := h₅ } →
            Q' (.ref a) { s4 with gens := s4.gens.push gs, toks := tk, heap := h₅ })) X.xe { s1 with heap := h3, toks := tk } := by
    intro code h3 tk qs ex size isP3 grown tr3
    obtain ⟨bm, ob, b1, b2, b3, b4, b5, b6, b7, b8⟩ := TB.bm
    have old3 : ∀ b u, b ≠ P → s1.heap.get? b = some u → h3.get? b = some u := fun b u nb e => ex b u nb (Heap.get?_push_of_some _ e)
    have itlt : s1.heap.objs.size < h3.objs.size := by
      have q : (s1.heap.push o).objs.size = s1.heap.objs.size + 1 := Heap.size_push ..
      omega
    obtain ⟨mc, nsc, _⟩ := id I1.nolimit
    have ltc : cStatics < s1.heap.objs.size := nsc.lt
    have ncP : cStatics ≠ P := by
      intro e
      obtain ⟨o', es, ep, ho, hd, _⟩ := nsc
      rw [e, isP] at ho
      cases ho
      cases hd
    have gl : h3.Ns X.env.globals X.mg := by
      rw [I1.ok.glob]
      exact ((I1.mod.glob.keeps I1.bk).push o).extBut ex TB.gP
    apply wpAny_builtinsFor gl b1 b2 (old3 _ _ b4 (I1.bk _ _ b5)) b6 b7 b8
    refine ⟨s1.heap.objs.size, fp, [s1.heap.objs.size], n, Pt, go, pz, F, rfl, W, ?_, ?_, lim2.extBut ex ncP, ?_, ?_, ?_⟩
    · exact (W X.A hr.hd).frame _ _ _ st fun b hb u e => ex b u (hfp b hb).2 e
    · intro b hb
      exact Nat.lt_of_le_of_lt (hfp b hb).1 itlt
    · intro z
      rcases List.mem_cons.mp z with z | z
      · exact Nat.ne_of_lt ltc z
      · cases z
    · intro href kept
      have was : ∀ s2 : Shared, (∀ b ∈ List.range h3.objs.size, b ∉ [s1.heap.objs.size] → ∀ o, href.get? b = some o → s2.heap.get? b = some o) → ∀ b u, b ≠ P → s1.heap.get? b = some u → s2.heap.get? b = some u := by
        intro s2 hk b u nb e
        have l1 := Heap.lt_size e
        refine hk b (List.mem_range.mpr (Nat.lt_trans l1 itlt)) ?_ u (kept b u (old3 b u nb e))
        intro z
        rcases List.mem_cons.mp z with z | z
        · exact Nat.ne_of_lt l1 z
        · cases z
      constructor
      · intro A' E' i v s2 m2 hA hPv hn hm hk
        exact (calm (genEnv scope (cloFrom X.env.cells scope.names []) h3.objs.size code builtinsNs X.env) A' E' i v s2 m2 rfl rfl rfl rfl hA hPv hn hm (was s2 hk)).1
      · intro A' E' i v s2 m2 hA hPv hp hn hm hk
        exact (calm (genEnv scope (cloFrom X.env.cells scope.names []) h3.objs.size code builtinsNs X.env) A' E' i v s2 m2 rfl rfl rfl rfl hA hPv hn hm (was s2 hk)).2 hp
    · intro g h5 tk5 gs bare lt5 sz5 keep5 W5 at5
      refine fin g _ ⟨_, _, _, _, W5.in4_3, ?_, at5, ?_, List.mem_cons_self, ?_⟩
      · rintro i s ⟨⟨ob, _, _, e, hc, _⟩, _⟩
        exact ⟨ob, e, hc⟩
      · intro b hb
        show b < h5.objs.size
        rw [sz5]
        have lt5' : h3.objs.size < g := lt5
        rcases List.mem_cons.mp hb with z | z
        · rw [z]
          exact Nat.lt_succ_self _
        · rcases List.mem_cons.mp z with z | z
          · rw [z]
            exact Nat.lt_succ_of_lt lt5'
          · exact Nat.lt_succ_of_lt (Nat.lt_trans (List.mem_range.mp z) lt5')
      · intro s' mv
        obtain ⟨more, em⟩ := grown
        have out : ∀ b u, s1.heap.get? b = some u → b ∉ h3.objs.size :: [s1.heap.objs.size] := by
          intro b u e hb
          have l1 : b < s1.heap.objs.size := Heap.lt_size e
          rcases List.mem_cons.mp hb with z | z
          · exact Nat.lt_irrefl _ (Nat.lt_trans (z ▸ l1 : (h3.objs.size : Nat) < s1.heap.objs.size) itlt)
          · rcases List.mem_cons.mp z with z | z
            · exact Nat.ne_of_lt l1 z
            · cases z
        have other : ∀ b u, b ≠ P → s1.heap.get? b = some u → s'.heap.get? b = some u := fun b u nb e => mv.heap b u (out b u e) (keep5 b u (old3 b u nb e))
        have tabNow : s'.heap.get? P = some { cls := .none, data := .fields (ps ++ more) } := by
          rw [← em]
          exact mv.heap P _ (out P _ isP) (keep5 P _ isP3)
        have J := GxR.inv_tab (more := more) (h' := s'.heap) (g' := s'.gens) (d' := s'.drawn) (t' := s'.toks) I1 hP other tabNow (AllBare.movedS (I1.bare.push bare) mv)
        rw [GxR.sh_eta s1 s' mv.os] at J
        refine ⟨upd H1 P (.tbl (ps ++ more)), ⟨⟨ps ++ more, upd_same, ?_⟩, fun b nb => upd_ne nb⟩, J⟩
        rw [← em]
        exact tr3
  cases hit : codeAmong gpos ps.toList with
  | none =>
    apply wpAny_genexprCodeX hcode (cd.code isP2 tr) (cd.tab isP2) hit
    intro c' h' tk ex ge lt co' _ tab' _
    obtain ⟨o1, vs, f1, tf, fl, tg, inF, tx, tt, op, _, _, _, _, _, _, _, _, _, tr', _⟩ := co'
    exact rest _ h' tk _ ex (Nat.le_trans ge (Nat.le_of_lt lt)) tab'.2 ⟨_, rfl⟩ tr'
  | some cv =>
    apply wpAny_genexprCode_hit hcode (cd.code isP2 tr) hit
    exact rest cv (s1.heap.push o) s1.toks ps (Heap.ExtBut.refl _ _) (Nat.le_refl _) isP2 ⟨#[], by simp⟩ tr
def RFlt (P : Addr) (K : PySem.W.Frag) (neg : Bool) (j : Nat) (σ : L2.St) (Q : VK) (v : V) (H1 : Hp) : Prop := ∃ (t y : Addr) (xs ys : List V), v = .ref t ∧ SqT K H1 t xs ∧ σ[j]? = some (some (.ref y)) ∧ SqT K H1 y ys ∧ xs.all flatV = true ∧ ys.all flatV = true ∧
  ∀ H2, GxR.Tabbed P H1 H2 → ∀ l, H2 l = none → Q (.ref l) (upd H2 l (.tup (xs.filter fun x => neg ^^ inV x ys)))
def tFlt (P : Addr) (te : TE) (K : PySem.W.Frag) (neg : Bool) (j : Nat) : TE := fun σ H Q => te σ H fun v H1 => GxR.TabG H1 P ∧ RFlt P K neg j σ Q v H1
theorem vals_range (xs : List V) : (List.range xs.length).map (fun i => xs.getD i .non) = xs := by
  apply List.ext_getElem
  · rw [List.length_map, List.length_range]
  · intro i h1 h2
    rw [List.getElem_map, List.getElem_range, List.getD_eq_getElem?_getD, List.getElem?_eq_getElem h2]
    rfl
theorem pe_tupF (neg : Bool) {c P : Addr} {iter : Expr} {x o : Str} {j : Nat} {px p pos gpos p1 p2 p3 p4 : Pos} {scope : Scope} {te : TE} {k : Nat}
    (hr : Room k X.A) (hg : Gl X "tuple") (hm : X.mg "tuple" = none) (TB : GxR.TabB X.base X.mg c P) (hcode : X.env.code = .ref c) (S : GxR.GenS X.env scope x) (hi : PE X iter te)
    (ho : scope.names.lookup o = some .free) (hj : X.N[j]? = some o) (hv : X.env.scope.names.lookup o = some .cell) (hc : X.env.kindOf o = some .cell) (clo : ∀ (cells : List (Str × Addr)) c, cells.lookup o = some c → (cloFrom cells scope.names []).lookup o = some c)
    (hs : ∀ v, genFold iter X.env v = pure v := by intro _; rfl) (hd : (x == ("__debug__" : Str)) = false := by decide) (hd2 : (o == ("__debug__" : Str)) = false := by decide) (hd3 : (o == ("__classdict__" : Str)) = false := by decide)
    (he : starEach [.GeneratorExp (.Name x p1) [⟨.Name x px, iter, [.Compare (.Name x p2) [if neg then .NotIn else .In] [.Name o p3] p4], 0⟩] scope gpos] X.env = (false, eval (.GeneratorExp (.Name x p1) [⟨.Name x px, iter, [.Compare (.Name x p2) [if neg then .NotIn else .In] [.Name o p3] p4], 0⟩] scope gpos) X.env) :: starEach [] X.env := by rfl) :
    PE X (.Call (.Name "tuple" p) [.GeneratorExp (.Name x p1) [⟨.Name x px, iter, [.Compare (.Name x p2) [if neg then .NotIn else .In] [.Name o p3] p4], 0⟩] scope gpos] [] pos) (tFlt P te X.K neg j) := by
  constructor
  intro pins s σ H Q I h
  apply wpAny_Call_Name_kw
  apply ld_blt I hg hm (show bootBuiltins "tuple" = some (.type "tuple") by decide +kernel)
  apply PyProof.Rows.callWith_type1 _ he (by rfl)
  rw [he]
  show wpAny _ _ (spliced ((false, eval (.GeneratorExp (.Name x p1) [⟨.Name x px, iter, [.Compare (.Name x p2) [if neg then .NotIn else .In] [.Name o p3] p4], 0⟩] scope gpos) X.env) :: backTo pos (starEach [] X.env))) _ _ s
  apply Calls.spliced_cons
  apply gen_makeF (R := RFlt P X.K neg j σ Q) hr TB hcode S hi hs I h
  rintro v H1 s1 u ⟨t, y, xs, ys, rfl, sq, hσ, sqy, fx, fy, q⟩ ⟨ps, hP, _⟩ I1 ru ltP
  cases ru
  have isP : s1.heap.get? P = some { cls := .none, data := .fields ps } := I1.hok P _ hP
  have notP : ∀ b ob, s1.heap.get? b = some ob → (∀ z, ob.data ≠ .fields z) → b ≠ P := by
    intro b ob e nf z
    rw [z, isP] at e
    cases e
    exact nf _ rfl
  have tupP : ∀ b its, s1.heap.IsTuple b its → b ≠ P := by
    rintro b its ⟨ob, e, _, m, hd⟩
    exact notP b ob e fun z e2 => by rw [hd] at e2; cases e2
  obtain ⟨its, vs, pl, small⟩ := I1.tuple sq
  have plT : s1.heap.IsTuple t its.toArray := pl
  have li := vals_len vs
  obtain ⟨m, _, look⟩ := I1.loc
  obtain ⟨u0, r0, lk⟩ := look j o _ hj hσ (.inr (.inl hv))
  cases r0
  obtain ⟨cc, hcl, hcell⟩ : ∃ c, X.env.cells.lookup o = some c ∧ s1.heap.IsCell c (some (.ref y)) := by
    rcases lk with ⟨k1, _⟩ | ⟨_, k2⟩
    · rw [hc] at k1
      cases k1
    · exact k2
  have szT : its.toArray.size = xs.length := by rw [List.size_toArray, li]
  have valAt : ∀ i v, its.toArray[i]? = some v → i < xs.length ∧ RelV (xs.getD i .non) v ∧ flatV (xs.getD i .non) = true := by
    intro i v hv
    rw [List.getElem?_toArray] at hv
    obtain ⟨x', hx, rx⟩ := vals_at vs hv
    obtain ⟨hlt, ex⟩ := List.getElem?_eq_some_iff.mp hx
    have e : xs.getD i .non = x' := by
      rw [List.getD_eq_getElem?_getD, hx]
      rfl
    rw [e]
    exact ⟨hlt, rx, List.all_eq_true.mp fx x' (List.mem_of_getElem? hx)⟩
  obtain ⟨js, r2, pl2, _⟩ := I1.tuple sqy
  have pl3 : s1.heap.IsTuple y js.toArray := pl2
  refine ⟨its.toArray.size, fun i v => its.toArray[i]? = some v, fun i => neg ^^ inV (xs.getD i .non) ys, fun i v => its.toArray[i]? = some v, src_tuple plT ltP (tupP _ _ plT), ?_, ?_⟩
  · intro cenv A' E' i va s2 m2 e1 e2 e3 e4 hh hv2 hn hma keep
    obtain ⟨hi2, rx, f0⟩ := valAt i va hv2
    have kf : cenv.scope.kind = .function := by rw [e1]; exact S.kind
    have cell2 : s2.heap.IsCell cc (some (.ref y)) := by
      obtain ⟨ob, e, hd⟩ := hcell
      refine ⟨ob, keep cc ob ?_ e, hd⟩
      exact notP cc ob e fun z e2 => by rw [hd] at e2; cases e2
    have l2 : s2.heap.IsTuple y js.toArray := pl3.at fun ob e => keep _ ob (tupP _ _ pl3) e
    constructor
    · simp only [List.forIn_cons, List.forIn_nil]
      refine wpAny_bind ?_
      simp only [if_pos]
      refine wpAny_bind ?_
      cases neg with
      | false =>
        refine wpAny_isTrue_Compare1 ?_ (hm := rfl)
        refine wpAny_Name (wpAny_loadName_local kf (show cenv.scope.names.lookup x = some .local by rw [e1]; exact S.loc) hn hma ?_) hd
        refine wpAny_Name (wpAny_loadName_free kf (show cenv.scope.names.lookup o = some .free by rw [e1]; exact ho) (by rw [e4]; exact clo _ _ hcl) cell2 ?_ hd3) hd2
        refine SeqAt.in_tupleAt (eqU (xs.getD i .non)) l2 (fun w hw => mem_eqAt rx f0 r2 fy w (by simpa using hw)) ?_
        apply wpAny_truthy_bool
        refine wpAny_pure (wpAny_pure ⟨?_, GxR.keeps_refl _⟩)
        rw [show js.toArray.any (eqU (xs.getD i .non)) = js.any (eqU (xs.getD i .non)) by simp, any_eqU r2 fy, Bool.false_xor]
        rfl
      | true =>
        refine wpAny_isTrue_Compare1 ?_ (hm := rfl)
        refine wpAny_Name (wpAny_loadName_local kf (show cenv.scope.names.lookup x = some .local by rw [e1]; exact S.loc) hn hma ?_) hd
        refine wpAny_Name (wpAny_loadName_free kf (show cenv.scope.names.lookup o = some .free by rw [e1]; exact ho) (by rw [e4]; exact clo _ _ hcl) cell2 ?_ hd3) hd2
        refine SeqAt.notIn_tupleAt (eqU (xs.getD i .non)) l2 (fun w hw => mem_eqAt rx f0 r2 fy w (by simpa using hw)) ?_
        apply wpAny_truthy_bool
        refine wpAny_pure (wpAny_pure ⟨?_, GxR.keeps_refl _⟩)
        rw [show js.toArray.any (eqU (xs.getD i .non)) = js.any (eqU (xs.getD i .non)) by simp, any_eqU r2 fy, Bool.true_xor]
        rfl
    · intro _
      exact wpAny_Name (wpAny_loadName_local kf (show cenv.scope.names.lookup x = some .local by rw [e1]; exact S.loc) hn hma ⟨hv2, GxR.keeps_refl _⟩) hd
  · rintro g s5 ⟨fp, wr, G, go, W, hT, st, hfp, hI, inv⟩
    apply Calls.spliced_nil
    refine call_tuple_gen W hT st hfp hI (fun s' acc mv items => ?_) ?_
    · obtain ⟨H2, tb, J⟩ := inv s' mv
      have ep : xs.filter (fun x => neg ^^ inV x ys) = (passing (fun i => neg ^^ inV (xs.getD i .non) ys) its.toArray.size 0).map fun i => xs.getD i .non := by
        conv => lhs; rw [← vals_range xs]
        rw [List.filter_map, szT]
        rfl
      have rel : Vals (xs.filter fun x => neg ^^ inV x ys) acc.toList := by
        rw [ep]
        refine vals_of (by rw [List.length_map]; exact items.1.symm.trans Array.length_toList.symm) ?_
        intro i u hu1
        rw [Array.getElem?_toList] at hu1
        obtain ⟨i', hp, hlt⟩ := items.2 i u hu1
        refine ⟨_, by rw [List.getElem?_map, hp]; rfl, (valAt i' u hlt).2.1⟩
      have I2 : Inv X pins σ (upd H2 s'.heap.objs.size (.tup (xs.filter fun x => neg ^^ inV x ys))) { s' with heap := s'.heap.push { cls := .type "tuple", data := .seq acc } } := by
        refine J.laid (t' := s'.toks) (fun b o e => Heap.get?_push_of_some _ e) (Nat.le_refl _) (show ObjOk X.prog X.w _ _ _ (.tup _) from ⟨?_, acc.toList, rel, ?_⟩)
        · exact Nat.le_trans (List.length_filter_le _ _) small
        · rw [Array.toArray_toList]
          exact IsTup.new _ _
      exact ⟨.ref s'.heap.objs.size, _, I2, rfl, q H2 tb _ (J.hok.fresh (Nat.le_refl _))⟩
    · unfold passing
      refine Nat.le_trans (List.length_filter_le _ _) ?_
      rw [List.drop_zero, List.length_range, szT]
      exact small
end
end Cu

namespace Cu
open PySem PySem.Spec PyProof.Rows L2
open AutoSeq1 (wpAny_loadPart')
section
variable {X : Cx}
/-- sorted(l) of a list of fewer than 64 texts -/
theorem call_sortLi : CallR X (.builtin "sorted") (fun xs H Q => ∃ (a : Addr) (ks : List Str), xs = [.ref a] ∧ SqL X.K H a (ks.map V.str) ∧ ks.length < 64 ∧
    ∀ ys p, ys.Perm ks → sortedS ys = true → H p = none → Q (.ref p) (upd H p (.lst (ys.map V.str)))) := by
  intro pins s σ H xs us Q I r q
  obtain ⟨a, ks, ex, hd, h64, q⟩ := q
  subst ex
  obtain ⟨u, eu, rx⟩ := vals1 r
  subst eu
  cases rx
  obtain ⟨its, rv, hl, hz⟩ := I.list hd
  obtain ⟨o, ho, hc, n, hdat⟩ := hl.isList
  have hS : StrsAre its ks := rv.strs
  have hal : its.length = ks.length := by
    have := rv.length
    rw [List.length_map] at this
    exact this.symm
  refine Calls.call_function_entry PyProof.Rows.kind_sorted PyProof.Rows.plain_sorted PyProof.Rows.entry_sorted (PyProof.Rows.args_sorted1 _) ?_
  unfold Builtin.«sorted»
  refine wpAny_bind (m := checkCount "sorted" 1 1 _) (wpAny_pure ?_)
  refine wpAny_bind (wpAny_collect_seq (A := X.A.in1) a (.inl rfl) ho hc hdat (fun h' hk => ?_) (by rw [List.size_toArray, hal, sizeLine_eq]; omega))
  have I1 : Inv X pins σ H { s with heap := h' } := I.kept (t' := s.toks) hk
  rw [List.toList_toArray]
  refine wpAny_bind (wpAny_newList ?_ (by rw [hal, sizeLine_eq]; omega))
  have hoL : (h'.push (seqObj "list" its.toArray 0)).get? h'.objs.size = some (seqObj "list" its.toArray 0) := Heap.get?_push_size _ rfl
  show wpAny _ _ _ _ _ { s with heap := h'.push (seqObj "list" its.toArray 0) }
  refine wpAny_bind (wpAny_holding (wpAny_call_entry PyProof.Rows.slot_list_sort ⟨_, hoL, rfl⟩ PyProof.Rows.entry_list_sort
    (list_sort_treeK strKind_oneLt (s := { s with heap := h'.push (seqObj "list" its.toArray 0) }) hoL hS.keysOf (fun v₁ v₂ rest e => keyKind_strs (by rw [← e]; exact hS)) (by rw [hal]; exact h64) fun st' hp hs => ⟨_, rfl, ?_⟩)
    (PyProof.Rows.args_list_sort _)))
  obtain ⟨ys, g1, g2, g3⟩ := sorted_out_str hS hp hs
  obtain ⟨e', he'⟩ := PyProof.Rows.sortedHeap_at (vs := its) (out := (arrOf st').map (·.2)) hoL
  have hlen : (ys.map V.str).length ≤ sizeLine := by
    rw [List.length_map, g2.length_eq]
    exact Nat.le_trans (Nat.le_of_lt h64) (by decide)
  refine wpAny_pure ⟨_, rfl, .ref h'.objs.size, upd H h'.objs.size (.lst (ys.map V.str)), I1.laid (t' := s.toks) (fun b u e => ?_) (Nat.le_refl _)
    (show ObjOk X.prog X.w _ _ _ (.lst (ys.map V.str)) from ⟨hlen, ((arrOf st').map (·.2)).toList, e', vals_of_strs g1, by rw [Array.toArray_toList]; exact he'⟩), rfl, q ys _ g2 g3 (I1.hok.fresh (Nat.le_refl _))⟩
  have hb : b < h'.objs.size := Heap.lt_size e
  rw [PyProof.Rows.sortedHeap_old (Nat.ne_of_lt hb) (by rw [size_push']; exact Nat.lt_succ_of_lt hb)]
  exact Heap.get?_push_of_some _ e
end
end Cu

namespace Cu
open PySem PySem.Spec PyProof.Rows L2
theorem map_inj {α β : Type} {f : α → β} (h : Function.Injective f) : ∀ {a b : List α}, a.map f = b.map f → a = b
  | [], [], _ => rfl
  | [], _ :: _, e => nomatch e
  | _ :: _, [], e => nomatch e
  | x :: a, y :: b, e => by
    rw [List.map_cons, List.map_cons] at e
    injection e with e1 e2
    rw [h e1, map_inj h e2]
theorem nm_zs {rows : List Row} {zs : List Str} (tx : Texts rows zs) : rows.map nmR = zs := by
  have h := tx.nms
  have : (rows.map nmR).map V.str = zs.map V.str := by
    rw [← h, List.map_map]
    refine List.map_congr_left fun r m => ?_
    exact (tx_of tx m).nm.symm
  exact map_inj str_inj this
abbrev Prs := Str × V
/-- the presses stand there -/
def PrsAt (H0 H : Hp) (ps : List Addr) (xs : List Prs) : Prop := Paired (fun a (x : Prs) => H0 a = none ∧ H a = some (.tup [.str x.1, x.2])) ps xs
theorem PrsAt.more {H0 H H' : Hp} {ps : List Addr} {xs : List Prs} (h : PrsAt H0 H ps xs) (s : Same H H') : PrsAt H0 H' ps xs := Paired.mapP h fun a x e => ⟨e.1, s _ _ e.2⟩
theorem Paired.len {α β : Type} {R : α → β → Prop} {a : List α} {b : List β} (h : Paired R a b) : a.length = b.length := by
  induction h with
  | nil => rfl
  | cons _ _ ih => rw [List.length_cons, List.length_cons, ih]
theorem Paired.app {α β : Type} {R : α → β → Prop} {a a' : List α} {b b' : List β} (h : Paired R a b) (h' : Paired R a' b') : Paired R (a ++ a') (b ++ b') := by
  induction h with
  | nil => exact h'
  | cons x _ ih => exact .cons x ih
section
variable {K : PySem.W.Frag} {α : Type} {l : List α} {enc : α → V} {mk : α → Prs} {a : Addr} {g : TG} {te : TE} {vs : List Nat} {σ : L2.St} {H1 : Hp} {D : Addr} {Qd : Hp → Prop}
theorem make_list (ea : H1 a = some (.lst (l.map enc))) (hD : H1 D = none) (sm : l.length ≤ 1000) (hs : ∀ x ∈ l, ∀ J, Same H1 J → ∀ R : L2.St → Hp → Prop, (∀ σ2, wipe σ2 vs = wipe σ vs → (∀ Q, (∀ p, J p = none → Q (.ref p) (upd J p (.tup [.str (mk x).1, (mk x).2]))) → te σ2 J Q) → R σ2 J) → g (enc x) (wipe σ vs) J R)
    (hd : ∀ J ps, J D = some (.lst (ps.map V.ref)) → Same H1 J → PrsAt H1 J ps (l.map mk) → Qd J) :
    ∃ W : Nat → Nat → Hp → Prop, (∃ m, W 0 m (upd H1 D (.lst []))) ∧ ∀ i m H, W i m H →
      ((L2.Itl K a).stop i H ∧ Qd H) ∨ ((L2.Itl K a).go i H ∧ ∃ Nx : Hp → Prop, (∀ H', Nx H' → ∃ m', m' < m ∧ W (i + 1) m' H') ∧ ∀ x H', (L2.Itl K a).yld i H x H' → g x (wipe σ vs) H' fun σ2 H2 => wipe σ2 vs = wipe σ vs ∧ tYes σ2 H2 fun b H3 =>
        if b = true then te σ2 H3 fun y H4 => ∃ acc, H4 D = some (.lst acc) ∧ acc.length < sizeLine ∧ Nx (upd H4 D (.lst (acc ++ [y]))) else Nx H3) := by
  refine lc_list (K := K) (a := a) (xs := l.map enc) (fun i J => ∃ ps : List Addr, J D = some (.lst (ps.map V.ref)) ∧ Same H1 J ∧ PrsAt H1 J ps ((l.take i).map mk)) ⟨[], upd_same, same_upd hD, .nil⟩ (fun i J _ h => ?_) (fun i v J hx h => ?_) fun J h => ?_
  · obtain ⟨_, _, s, _⟩ := h
    exact SqL.of (s _ _ ea)
  · obtain ⟨ps, eD, s2, pd⟩ := h
    rw [List.getElem?_map] at hx
    obtain ⟨x, hx1, rfl⟩ := Option.map_eq_some_iff.mp hx
    have mx := List.mem_of_getElem? hx1
    have pl := Paired.len pd
    rw [List.length_map, List.length_take] at pl
    refine hs x mx J s2 _ fun σ2 h1 h3 => ⟨h1, lc_yes (h3 _ fun p np => ?_)⟩
    have Dp : D ≠ p := ne_of_none eD np
    refine ⟨ps.map V.ref, (upd_ne Dp).trans eD, small1000 (by rw [List.length_map]; omega), ps ++ [p], ?_, same_put (s2.trans (same_upd np)) hD, ?_⟩
    · rw [upd_same, List.map_append]
      rfl
    · rw [List.take_add_one, hx1, List.map_append]
      have up : ∀ b ys, J b = some (.tup ys) → upd (upd J p (.tup [.str (mk x).1, (mk x).2])) D (.lst (ps.map V.ref ++ [.ref p])) b = some (.tup ys) := fun b ys e => by
        have bD : b ≠ D := fun z => by
          rw [z, eD] at e
          cases e
        rw [upd_ne bD, upd_ne (ne_of_none e np)]
        exact e
      refine Paired.snoc (Paired.mapP pd fun b x e => ⟨e.1, up b _ e.2⟩) ⟨s2.free np, ?_⟩
      rw [upd_ne Dp.symm, upd_same]
  · obtain ⟨ps, eD, s2, pd⟩ := h
    rw [List.length_map, List.take_length] at pd
    exact hd J ps eD s2 pd
end
theorem Paired.at {α β : Type} {R : α → β → Prop} {a : List α} {b : List β} (h : Paired R a b) : ∀ {i : Nat} {x : α}, a[i]? = some x → ∃ y, b[i]? = some y ∧ R x y := by
  induction h with
  | nil => intro i x e; cases e
  | cons r _ ih =>
    intro i x e
    cases i with
    | zero => cases e; exact ⟨_, rfl, r⟩
    | succ i => exact ih e
theorem shaped_tup {zs : List Str} (h : ∀ z ∈ zs, Asc z) : SeqAt.shaped (.tuple (zs.map PyData.str)) = true := by
  have := shaped_strs h
  unfold SeqAt.shaped at this ⊢
  simpa [PyData.canLay0, PyData.depth] using this
theorem plain_strs : ∀ (zs : List Str), PyData.plainAll (zs.map PyData.str) = true
  | [] => rfl
  | z :: zs => by
    rw [List.map_cons, PyData.plainAll, plain_strs zs]
    rfl
theorem eqv_tup_self (zs : List Str) : PyData.eqv (.tuple (zs.map PyData.str)) (.tuple (zs.map PyData.str)) = true := by
  refine PySem.SeqAt.eqv_refl_plain _ ?_
  rw [PyData.plain]
  exact plain_strs zs
def hasD (z : Str) (r : Row) : Bool := decide (V.str z ∈ r.2.2.2)
theorem has_iff {z : Str} {r : Row} : hasD z r = true ↔ V.str z ∈ r.2.2.2 := by
  unfold hasD
  exact decide_eq_true_iff
theorem doc_rows {rows : List Row} (h : ∀ r ∈ rows, TxR r) : Doc meets hasD rows := by
  intro a ma b mb
  unfold meets
  rw [List.any_eq_true]
  constructor
  · rintro ⟨x, mx, hx⟩
    obtain ⟨z, rfl⟩ := (h a ma).ds x mx
    exact ⟨z, has_iff.mpr mx, has_iff.mpr ((in_str (h b mb).ds).mp hx)⟩
  · rintro ⟨z, h1, h2⟩
    exact ⟨.str z, has_iff.mp h1, (in_str (h b mb).ds).mpr (has_iff.mp h2)⟩
theorem low_lows {rem : List Row} {r : Row} : r ∈ lows rem ↔ Low meets rem r := mem_lows
theorem Norm.leq {rem out : List Row} (h : Norm rem out) : rem.Nodup → Doc meets hasD rem → LEq hasD rem out := by
  induction h with
  | nil => exact fun _ _ => .refl _
  | @cons rem m j out hj low least t ih =>
    intro nd d
    obtain ⟨l1, l2, e, hl⟩ := low_lows.mp low
    have ej := erase_filter nd hj
    have e1 : rem[l1.length]? = some m := by
      rw [e, List.getElem?_append_right (Nat.le_refl _), Nat.sub_self]
      rfl
    have ej1 := erase_filter nd e1
    have e2 : rem.eraseIdx l1.length = l1 ++ l2 := by
      rw [e, List.eraseIdx_append_of_length_le (Nat.le_refl _), Nat.sub_self]
      rfl
    have e3 : rem.eraseIdx j = l1 ++ l2 := by rw [ej, ← ej1, e2]
    have sub : (rem.eraseIdx j).Sublist rem := List.eraseIdx_sublist _ _
    have k := ih (nd.sublist sub) (d.sub fun a m => sub.subset m)
    refine (low_front e hl d).trans ?_
    rw [← e3]
    exact k.cons m
noncomputable def srt (l : List Str) : List Str := Classical.epsilon fun ys => ys.Perm l ∧ ys.Pairwise LtS
theorem srt_eq {l ys : List Str} (p : ys.Perm l) (a : ys.Pairwise LtS) : srt l = ys := by
  have sp := Classical.epsilon_spec (p := fun ys : List Str => ys.Perm l ∧ ys.Pairwise LtS) ⟨ys, p, a⟩
  exact asc_eq sp.2 a fun k => sp.1.mem_iff.trans p.mem_iff.symm
theorem srt_of {l ys : List Str} (nd : l.Nodup) (p : ys.Perm l) (s : sortedS ys = true) : ys = srt l := (srt_eq p (sorted_asc (p.nodup_iff.mpr nd) s)).symm
def upN (rows : List Row) (z : Str) : List Str := (pick (byName [V.str z]) meets rows).map nmR
def dnN (rows : List Row) (z : Str) : List Str := ((pick (byName [V.str z]) meets rows.reverse).map nmR).reverse
theorem pick_str {rows : List Row} (tx : ∀ r ∈ rows, TxR r) (ns : List V) : (pick (byName ns) meets rows).map (fun r => r.2.1) = ((pick (byName ns) meets rows).map nmR).map V.str := by
  rw [List.map_map]
  exact List.map_congr_left fun r m => (tx r ((pick_sub _ _ _).subset m)).nm
theorem reach_up {rows : List Row} (tx : ∀ r ∈ rows, TxR r) (z : Str) : reachL [V.str z] rows = (upN rows z).map V.str := by
  rw [reach_pick, pick_str tx]
  rfl
theorem down_dn {rows : List Row} (tx : ∀ r ∈ rows, TxR r) (z : Str) : downL [V.str z] rows = (dnN rows z).map V.str := by
  unfold downL dnN
  rw [reach_pick, pick_str (rows := rows.reverse) (fun r m => tx r (List.mem_reverse.mp m)), ← List.map_reverse]
theorem up_nd {rows : List Row} (ap : Apart rows) (z : Str) : (upN rows z).Nodup := ap.sub (pick_sub _ _ _)
theorem apart_rev {rows : List Row} (ap : Apart rows) : Apart rows.reverse := by
  unfold Apart at ap ⊢
  rw [List.map_reverse]
  exact ((List.reverse_perm _).nodup_iff.mpr ap)
theorem dn_nd {rows : List Row} (ap : Apart rows) (z : Str) : (dnN rows z).Nodup := (List.reverse_perm _).nodup_iff.mpr ((apart_rev ap).sub (pick_sub _ _ _))
theorem pick_leq {rows rows' : List Row} (le : LEq hasD rows rows') (nd : rows.Nodup) (tx : ∀ r ∈ rows, TxR r) (ns : List V) : (pick (byName ns) meets rows).Perm (pick (byName ns) meets rows') := by
  have nd' := le.perm.nodup_iff.mp nd
  rw [List.perm_ext_iff_of_nodup (nd.sublist (pick_sub _ _ _)) (nd'.sublist (pick_sub _ _ _))]
  intro y
  rw [mem_pick, mem_pick]
  constructor
  · rintro ⟨x, px, h⟩
    exact ⟨x, px, (le.path (doc_rows tx) nd).mp h⟩
  · rintro ⟨x, px, h⟩
    exact ⟨x, px, (le.path (doc_rows tx) nd).mpr h⟩
theorem leq_rev {rows rows' : List Row} (le : LEq hasD rows rows') : LEq hasD rows.reverse rows'.reverse := by
  refine ⟨(List.reverse_perm _).trans (le.perm.trans (List.reverse_perm _).symm), fun z => ?_⟩
  rw [List.filter_reverse, List.filter_reverse, le.lists z]
theorem up_leq {rows rows' : List Row} (le : LEq hasD rows rows') (nd : rows.Nodup) (tx : ∀ r ∈ rows, TxR r) (z : Str) : (upN rows z).Perm (upN rows' z) := (pick_leq le nd tx _).map nmR
theorem dn_leq {rows rows' : List Row} (le : LEq hasD rows rows') (nd : rows.Nodup) (tx : ∀ r ∈ rows, TxR r) (z : Str) : (dnN rows z).Perm (dnN rows' z) := by
  unfold dnN
  refine (List.reverse_perm _).trans (List.Perm.trans ?_ (List.reverse_perm _).symm)
  exact (pick_leq (leq_rev le) (((List.reverse_perm _).nodup_iff.mpr nd)) (fun r m => tx r (List.mem_reverse.mp m)) _).map nmR
theorem lay_all {k : Nat} : ∀ {ds : List PyData}, (∀ d ∈ ds, d.canLay0 = true ∧ d.depth ≤ k) → PyData.canLayAll0 ds = true ∧ PyData.depthAll ds ≤ k
  | [], _ => ⟨by simp [PyData.canLayAll0], by simp [PyData.depthAll]⟩
  | d :: ds, h => by
    obtain ⟨h1, h2⟩ := lay_all (ds := ds) fun x m => h x (List.mem_cons_of_mem _ m)
    obtain ⟨g1, g2⟩ := h d List.mem_cons_self
    refine ⟨by simp only [PyData.canLayAll0, g1, h1, Bool.and_self], ?_⟩
    simp only [PyData.depthAll]
    omega
theorem lay_list {k : Nat} {ds : List PyData} (h : ∀ d ∈ ds, d.canLay0 = true ∧ d.depth ≤ k) : (PyData.list ds).canLay0 = true ∧ (PyData.list ds).depth ≤ k + 1 := by
  obtain ⟨h1, h2⟩ := lay_all h
  refine ⟨by simpa only [PyData.canLay0] using h1, ?_⟩
  simp only [PyData.depth]
  omega
theorem lay_tup {k : Nat} {ds : List PyData} (h : ∀ d ∈ ds, d.canLay0 = true ∧ d.depth ≤ k) : (PyData.tuple ds).canLay0 = true ∧ (PyData.tuple ds).depth ≤ k + 1 := by
  obtain ⟨h1, h2⟩ := lay_all h
  refine ⟨by simpa only [PyData.canLay0] using h1, ?_⟩
  simp only [PyData.depth]
  omega
theorem lay_str {k : Nat} {z : Str} (h : Asc z) : (PyData.str z).canLay0 = true ∧ (PyData.str z).depth ≤ k := ⟨by simpa only [PyData.canLay0] using strOk_of h, by simp [PyData.depth]⟩
theorem shaped_of {k : Nat} {d : PyData} (h : d.canLay0 = true ∧ d.depth ≤ k) (hk : k ≤ 50 := by decide) : SeqAt.shaped d = true := by
  unfold SeqAt.shaped
  rw [Bool.and_eq_true]
  exact ⟨h.1, decide_eq_true (by omega)⟩
def lsN (rows : List Row) (z : Str) : List Str := (rows.filter (hasD z)).map nmR
theorem map_inj_on {α β : Type} {f : α → β} : ∀ {l l' : List α}, (∀ a ∈ l, ∀ b ∈ l', f a = f b → a = b) → l.map f = l'.map f → l = l'
  | [], [], _, _ => rfl
  | [], b :: l', _, e => by cases e
  | a :: l, [], _, e => by cases e
  | a :: l, b :: l', h, e => by
    rw [List.map_cons, List.map_cons] at e
    obtain ⟨e1, e2⟩ := List.cons.inj e
    rw [h a List.mem_cons_self b List.mem_cons_self e1, map_inj_on (fun x mx y my => h x (List.mem_cons_of_mem _ mx) y (List.mem_cons_of_mem _ my)) e2]
theorem ls_leq {rows rows' : List Row} (p : rows.Perm rows') (ap : Apart rows) : (∀ z, lsN rows z = lsN rows' z) ↔ LEq hasD rows rows' := by
  constructor
  · intro h
    refine ⟨p, fun z => map_inj_on (fun a ma b mb e => ?_) (h z)⟩
    exact ap.one (List.mem_filter.mp ma).1 (p.symm.subset (List.mem_filter.mp mb).1) e
  · intro h z
    unfold lsN
    rw [h.lists z]
theorem ins_asc {x : Str} : ∀ {ys : List Str}, ys.Pairwise LtS → x ∉ ys → ∃ zs : List Str, zs.Perm (x :: ys) ∧ zs.Pairwise LtS
  | [], _, _ => ⟨[x], .refl _, List.pairwise_cons.mpr ⟨nofun, .nil⟩⟩
  | y :: ys, h, n => by
    obtain ⟨h1, h2⟩ := List.pairwise_cons.mp h
    by_cases c : LtS x y
    · refine ⟨x :: y :: ys, .refl _, List.pairwise_cons.mpr ⟨fun z m => ?_, h⟩⟩
      rcases List.mem_cons.mp m with rfl | m
      · exact c
      · exact ltS_trans c (h1 z m)
    · have yx : LtS y x := ltS_of c fun e => n (by rw [e]; exact List.mem_cons_self)
      obtain ⟨zs, p, a⟩ := ins_asc h2 fun m => n (List.mem_cons_of_mem _ m)
      refine ⟨y :: zs, (p.cons y).trans (List.Perm.swap x y ys), List.pairwise_cons.mpr ⟨fun z m => ?_, a⟩⟩
      rcases List.mem_cons.mp (p.subset m) with rfl | m
      · exact yx
      · exact h1 z m
theorem asc_ex : ∀ {l : List Str}, l.Nodup → ∃ ys : List Str, ys.Perm l ∧ ys.Pairwise LtS
  | [], _ => ⟨[], .refl _, .nil⟩
  | x :: l, nd => by
    obtain ⟨n1, n2⟩ := List.nodup_cons.mp nd
    obtain ⟨ys, p, a⟩ := asc_ex n2
    obtain ⟨zs, p2, a2⟩ := ins_asc (x := x) a fun m => n1 (p.subset m)
    exact ⟨zs, p2.trans (p.cons x), a2⟩
theorem srt_perm {l : List Str} (nd : l.Nodup) : (srt l).Perm l := by
  obtain ⟨ys, p, a⟩ := asc_ex nd
  rw [srt_eq p a]
  exact p
theorem dxAll_app {H : Hp} : ∀ {xs ys : List V} {ds es : List PyData}, DxAll H xs ds → DxAll H ys es → DxAll H (xs ++ ys) (ds ++ es)
  | _, _, _, _, .nil, k => k
  | _, _, _, _, .cons h t, k => .cons h (dxAll_app t k)
theorem dx_strs {H : Hp} : ∀ (zs : List Str), DxAll H (zs.map V.str) (zs.map PyData.str)
  | [] => .nil
  | z :: zs => .cons (.str z) (dx_strs zs)
theorem Mt.take {tb p : Addr} {F H F' H' : Hp} {o : HO} (m : Mt tb F H F' H') (n : H p = none) (np : p ≠ tb) (fp : F' p = none) (e : H' p = some o) : Mt tb F H (upd F' p o) H' := by
  refine ⟨m.k, fun x o' e' => same_upd fp x o' (m.s x o' e'), fun x o' e' => ?_, (upd_ne np.symm).trans m.ft, fun x hf hh => ?_⟩
  · by_cases hx : x = p
    · rw [hx, upd_same] at e'
      rw [hx, e]
      exact e'
    · rw [upd_ne hx] at e'
      exact m.s' x o' e'
  · have hx : x ≠ p := fun z => hh (z ▸ n)
    rw [upd_ne hx]
    exact m.fr x hf hh
theorem Mt.fresh_ {tb p : Addr} {F H F' H' : Hp} (m : Mt tb F H F' H') (n : H' p = none) : H p = none ∧ p ≠ tb ∧ F' p = none := by
  have np := tab_ne m.k.tab n
  exact ⟨m.k.free n np, np, none_of m.s' n⟩
theorem off_of {tb b : Addr} {J : Hp} {o : HO} (t : GxR.TabG J tb) (e : J b = some o) (no : ∀ ps, o ≠ .tbl ps) : off tb J b = some o := by
  rw [off_at fun h => ?_]
  · exact e
  · obtain ⟨ps, h2, _⟩ := t
    rw [← h, e] at h2
    exact no ps (Option.some.inj h2)
theorem off_stays {tb : Addr} {J : Hp} (t : GxR.TabG J tb) : Stays J (off tb J) := fun b o e k => off_of t e fun ps z => by
  subst z
  rcases k with ⟨_, z⟩ | ⟨_, z⟩ | ⟨_, z⟩ <;> cases z
theorem docs_nd : docs8.Nodup := by decide +kernel
end Cu

namespace Cu
open PySem PySem.Spec PyProof.Rows L2
/-! ### above and below, by names -/
def Le (rows : List Row) (a b : Str) : Prop := ∃ r r' : Row, nmR r = a ∧ nmR r' = b ∧ Path meets rows r r'
theorem nm_str {rows : List Row} {zs : List Str} (tx : Texts rows zs) {r : Row} (m : r ∈ rows) {z : Str} : r.2.1 = .str z ↔ nmR r = z := by
  rw [(tx_of tx m).nm]
  exact ⟨V.str.inj, fun e => by rw [e]⟩
theorem up_le {rows : List Row} {zs : List Str} (tx : Texts rows zs) {z y : Str} : y ∈ upN rows z ↔ Le rows z y := by
  have e := reach_up (fun r m => tx_of tx m) z (rows := rows)
  have h := reach_in tx [z] y
  rw [show ([z] : List Str).map V.str = [V.str z] from rfl, e, in_map] at h
  rw [h]
  constructor
  · rintro ⟨r, r', ⟨w, mw, er⟩, er', p⟩
    rw [List.mem_singleton.mp mw] at er
    exact ⟨r, r', (nm_str tx (path_mem p).1).mp er, (nm_str tx (path_mem p).2).mp er', p⟩
  · rintro ⟨r, r', er, er', p⟩
    exact ⟨r, r', ⟨z, List.mem_singleton.mpr rfl, (nm_str tx (path_mem p).1).mpr er⟩, (nm_str tx (path_mem p).2).mpr er', p⟩
theorem dn_le {rows : List Row} {zs : List Str} (tx : Texts rows zs) {z y : Str} : y ∈ dnN rows z ↔ Le rows y z := by
  have e := down_dn (fun r m => tx_of tx m) z (rows := rows)
  have h := down_in tx [z] y
  rw [show ([z] : List Str).map V.str = [V.str z] from rfl, e, in_map] at h
  rw [h]
  constructor
  · rintro ⟨r, r', ⟨w, mw, er⟩, er', p⟩
    rw [List.mem_singleton.mp mw] at er
    exact ⟨r', r, (nm_str tx (path_mem p).1).mp er', (nm_str tx (path_mem p).2).mp er, p⟩
  · rintro ⟨r', r, er', er, p⟩
    exact ⟨r, r', ⟨z, List.mem_singleton.mpr rfl, (nm_str tx (path_mem p).2).mpr er⟩, (nm_str tx (path_mem p).1).mpr er', p⟩
theorem Le.refl {rows : List Row} {zs : List Str} (tx : Texts rows zs) {z : Str} (m : z ∈ zs) : Le rows z z := by
  rw [← nm_zs tx] at m
  obtain ⟨r, mr, rfl⟩ := List.mem_map.mp m
  exact ⟨r, r, rfl, rfl, self_path mr⟩
theorem Le.mem {rows : List Row} {zs : List Str} (tx : Texts rows zs) {a b : Str} (h : Le rows a b) : a ∈ zs ∧ b ∈ zs := by
  obtain ⟨r, r', rfl, rfl, p⟩ := h
  rw [← nm_zs tx]
  exact ⟨List.mem_map_of_mem (path_mem p).1, List.mem_map_of_mem (path_mem p).2⟩
theorem ap_of {rows : List Row} {zs : List Str} (tx : Texts rows zs) : Apart rows := by
  unfold Apart
  rw [nm_zs tx]
  exact tx.nd
theorem Le.trans {rows : List Row} {zs : List Str} (tx : Texts rows zs) {a b c : Str} (h : Le rows a b) (g : Le rows b c) : Le rows a c := by
  obtain ⟨r, r', ea, eb, p⟩ := h
  obtain ⟨s, s', eb', ec, q⟩ := g
  have e : r' = s := (ap_of tx).one (path_mem p).2 (path_mem q).1 (eb.trans eb'.symm)
  subst e
  exact ⟨r, s', ea, ec, path_trans tx.rnd p q⟩
/-- a cut -/
structure CutS (rows : List Row) (zs cs : List Str) : Prop where
  z : ∀ y ∈ cs, y ∈ zs
  c : ∀ a b, b ∈ cs → Le rows a b → a ∈ cs
  a : cs.Pairwise LtS
theorem pw_nodup {cs : List Str} (h : cs.Pairwise LtS) : cs.Nodup := List.Pairwise.imp (R := LtS) (S := fun a b => a ≠ b) (fun {a b} l (e : a = b) => ltS_irr a (by rw [← e] at l; exact l)) h
theorem CutS.len {rows : List Row} {zs cs : List Str} (tx : Texts rows zs) (h : CutS rows zs cs) : cs.length ≤ rows.length := by
  have := nodup_len (pw_nodup h.a) h.z
  rw [tx.len] at this
  exact this
/-! ### several tables -/
def offs (ps : List Addr) (F : Hp) : Hp := fun b => if b ∈ ps then none else F b
theorem offs_tb {ps : List Addr} {F : Hp} {p : Addr} (m : p ∈ ps) : offs ps F p = none := if_pos m
theorem offs_at {ps : List Addr} {b : Addr} {F : Hp} (h : b ∉ ps) : offs ps F b = F b := if_neg h
theorem offs_same {ps : List Addr} {F J : Hp} (s : Same F J) : Same (offs ps F) J := fun b o e => by
  by_cases h : b ∈ ps
  · rw [offs_tb h] at e
    cases e
  · rw [offs_at h] at e
    exact s _ _ e
theorem offs_of {ps : List Addr} {b : Addr} {J : Hp} {o : HO} (t : ∀ p ∈ ps, GxR.TabG J p) (e : J b = some o) (no : ∀ q, o ≠ .tbl q) : offs ps J b = some o := by
  rw [offs_at fun h => ?_]
  · exact e
  · obtain ⟨q, h2, _⟩ := t b h
    rw [e] at h2
    exact no q (Option.some.inj h2)
theorem offs_heap {ps : List Addr} {t : Addr} {J : Hp} {rows : List Row} (tt : ∀ p ∈ ps, GxR.TabG J p) (h : HeapIn J t rows) : HeapIn (offs ps J) t rows :=
  ⟨offs_of tt h.at_ (fun _ z => nomatch z), fun r m => offs_of tt (h.row r m) (fun _ z => nomatch z), fun r m => offs_of tt (h.doc r m) (fun _ z => nomatch z), h.flat, h.few⟩
theorem Tbs.keep_ {ps : List Addr} {J J' : Hp} {b : Addr} {o : HO} (t : Tbs ps J J') (tt : ∀ p ∈ ps, GxR.TabG J p) (e : J b = some o) (no : ∀ q, o ≠ .tbl q) : J' b = some o := by
  refine t.keep b o (fun h => ?_) e
  obtain ⟨q, h2, _⟩ := tt b h
  rw [e] at h2
  exact no q (Option.some.inj h2)
theorem Tbs.tup {ps : List Addr} {J J' : Hp} {b : Addr} {xs : List V} (t : Tbs ps J J') (tt : ∀ p ∈ ps, GxR.TabG J p) (e : J b = some (.tup xs)) : J' b = some (.tup xs) := t.keep_ tt e (fun _ z => nomatch z)
theorem Tbs.lst {ps : List Addr} {J J' : Hp} {b : Addr} {xs : List V} (t : Tbs ps J J') (tt : ∀ p ∈ ps, GxR.TabG J p) (e : J b = some (.lst xs)) : J' b = some (.lst xs) := t.keep_ tt e (fun _ z => nomatch z)
theorem Tbs.heap {ps : List Addr} {J J' : Hp} {t : Addr} {rows : List Row} (k : Tbs ps J J') (tt : ∀ p ∈ ps, GxR.TabG J p) (h : HeapIn J t rows) : HeapIn J' t rows :=
  ⟨k.tup tt h.at_, fun r m => k.tup tt (h.row r m), fun r m => k.tup tt (h.doc r m), h.flat, h.few⟩
theorem Tbs.same_ {ps : List Addr} {J J' J2 : Hp} (k : Tbs ps J J') (s : Same J' J2) : Tbs ps J J2 :=
  ⟨fun b o n e => s _ _ (k.keep b o n e), fun p m => by
    obtain ⟨q, h, t⟩ := k.tab p m
    exact ⟨q, s _ _ h, t⟩⟩
theorem Tbs.of_same {ps : List Addr} {J J' : Hp} (tt : ∀ p ∈ ps, GxR.TabG J p) (s : Same J J') : Tbs ps J J' := (Tbs.refl tt).same_ s
theorem Tbs.free {ps : List Addr} {J J' : Hp} {p : Addr} (k : Tbs ps J J') (n : J' p = none) : J p = none ∧ p ∉ ps := by
  have np : p ∉ ps := fun m => by
    obtain ⟨q, h, _⟩ := k.tab p m
    rw [n] at h
    cases h
  refine ⟨?_, np⟩
  cases h : J p with
  | none => rfl
  | some o =>
    rw [k.keep p o np h] at n
    cases n
theorem Tbs.put {ps : List Addr} {J J' : Hp} {p : Addr} {o : HO} (k : Tbs ps J J') (n : J p = none) (np : p ∉ ps) : Tbs ps J (upd J' p o) := by
  refine ⟨fun b x nb e => (upd_ne (ne_of_none e n)).trans (k.keep b x nb e), fun q m => ?_⟩
  obtain ⟨qs, h, t⟩ := k.tab q m
  exact ⟨qs, (upd_ne (fun z : q = p => np (by rw [← z]; exact m))).trans h, t⟩
theorem seq_tbs {K : PySem.W.Frag} {ps : List Addr} {a : Addr} {H H1 : Hp} {xs : List V} (t : Tbs ps H H1) (tab : ∀ p ∈ ps, GxR.TabG H p) (h : SqL K H a xs) : SqL K H1 a xs := by
  rcases h with (h | ⟨o, h⟩) | h
  · exact .inl (.inl (t.keep_ tab h (fun _ z => nomatch z)))
  · exact .inl (.inr ⟨o, t.keep_ tab h (fun _ z => nomatch z)⟩)
  · exact .inr h
/-! ### reach, by contents alone -/
theorem step_snd {ns : List V} {st : List V × List V} {r r' : Row} (h : r.2 = r'.2) : step ns st r = step ns st r' := by
  unfold step
  rw [h]
theorem fold_snd (ns : List V) : ∀ {a b : List Row} {st : List V × List V}, a.map (fun r => r.2) = b.map (fun r => r.2) → a.foldl (step ns) st = b.foldl (step ns) st
  | [], [], _, _ => rfl
  | [], _ :: _, _, h => by cases h
  | _ :: _, [], _, h => by cases h
  | x :: a, y :: b, st, h => by
    rw [List.map_cons, List.map_cons] at h
    rw [List.foldl_cons, List.foldl_cons, step_snd (List.cons.inj h).1]
    exact fold_snd ns (List.cons.inj h).2
theorem reach_snd {ns : List V} {a b : List Row} (h : a.map (fun r => r.2) = b.map (fun r => r.2)) : reachL ns a = reachL ns b := by
  unfold reachL runs
  rw [fold_snd ns h]
theorem down_snd {ns : List V} {a b : List Row} (h : a.map (fun r => r.2) = b.map (fun r => r.2)) : downL ns a = downL ns b := by
  unfold downL
  rw [reach_snd (a := a.reverse) (b := b.reverse) (by rw [List.map_reverse, List.map_reverse, h])]
abbrev sBk : Stmt := topS 15
abbrev nBk : List Str := ["heap", "cut", "name"]
theorem scBk : FnScope nBk ["heap", "cut", "name"] (defScope sBk) := ⟨rfl, rfl, rfl, by decide +kernel, rfl, by decide +kernel, by decide +kernel⟩
abbrev sFt : Stmt := topS 16
theorem scFt : FnScope nBk ["heap", "cut", "name"] (defScope sFt) := ⟨rfl, rfl, rfl, by decide +kernel, rfl, by decide +kernel, by decide +kernel⟩
section
variable {P : Program} {w : World} {K : PySem.W.Frag} {mg : Str → Option Value} {base : Heap}
def spSet (ps : List Addr) (R : List Row → List Str → Str → Str → Prop) : Sp := fun vs H Q _ => ∃ (t c : Addr) (rows : List Row) (zs cs : List Str) (z : Str), vs = [.ref t, .ref c, .str z] ∧ (∀ p ∈ ps, GxR.TabG H p) ∧ HeapIn H t rows ∧ rows.length ≤ 40 ∧ Texts rows zs ∧ H c = some (.tup (cs.map V.str)) ∧
  ∀ H' p (ns : List Str), Tbs ps H H' → H p = none → H' p = some (.tup (ns.map V.str)) → ns.Nodup → (∀ y, y ∈ ns ↔ R rows cs z y) → Q (.ref p) H'
theorem flat_strs (zs : List Str) : (zs.map V.str).all flatV = true := by
  rw [List.all_eq_true]
  intro x m
  obtain ⟨z, _, rfl⟩ := List.mem_map.mp m
  rfl
/-- what both do first: the heap in its normal order, what is above or below in it -/
theorem norm_reach {ps : List Addr} {pS t z : Addr} {H : Hp} : True := trivial
theorem ok_bk {f c0 fN fU pS pB : Addr} {fd fdN fdU : FuncData} {ps : List Addr} (F : Fun K "back_set" "back_set" sBk f fd) (hc0 : fd.code = .ref c0) (TB : GxR.TabB base mg c0 pB) (mS : pS ∈ ps) (mB : pB ∈ ps) (DNo : Df K mg "normal" sNo ["heap"] fN fdN) (GNo : FnOk P w K mg base CX0 3 fN fdN ["heap"] (spNorm pS)) (DUp : Df K mg "up" sUp ["heap", "names"] fU fdU) (GUp : FnOk P w K mg base CX0 3 fU fdU ["heap", "names"] (spUp pS reachL)) (T : Bl mg) :
    FnOk P w K mg base CX0 4 f fd ["heap", "cut", "name"] (spSet ps fun rows cs z y => y ∈ cs ∧ Le rows z y) := by
  refine okC F hc0 scBk (fun vs H Q E h => ?_) (fun A outer s H vs Q E hr h => ?_)
  · obtain ⟨t, c, rows, zs, cs, z, rfl, _⟩ := h
    rfl
  · obtain ⟨t, c, rows, zs, cs, z, rfl, tt, hin, rl, tx, ec, q⟩ := h
    refine ⟨_, (pss_one (ps_ret (pe_tupF false (j := 1) hr (by rfl) T.tuple TB rfl (gen_scopeF (o := "cut") rfl rfl (by decide +kernel) rfl rfl ⟨_, rfl⟩) (pe_revT (pe_call GUp hr (by rfl) DUp.g DUp.F.kp DUp.b .nil pass0 (pa_cons (pe_call GNo hr (by rfl) DNo.g DNo.F.kp DNo.b .nil pass0 (pa_cons (pv 0) pa_nil)) (pa_cons (pe_tup (pa_cons (pv 2) pa_nil)) pa_nil)))) rfl rfl rfl rfl (fun cells c h => by
      show (some ((cells.lookup (Str.ofString "cut")).getD 0)) = some c
      rw [h]
      rfl)))), ?_⟩
    have hinW := offs_heap tt hin
    have sW : Same (offs ps H) H := offs_same (Same.refl _)
    refine ⟨.ref t, rfl, offs ps H, t, rows, rfl, sW, offs_tb mS, tt pS mS, hinW.at_, hinW.rowsF tx, ap_of tx, by omega, fun H1 F1 p1 out o2 m1 np1 e1 n1 eo rf1 => ?_⟩
    have k1 : Tbs ps H H1 := Tbs.of_tbk tt mS m1.k
    refine ⟨.str z, rfl, by show 1 ≤ sizeLine; decide, fun q1 nq1 => ?_⟩
    have m2 := m1.new (o := .tup [.str z]) nq1
    have e2 : (upd F1 q1 (.tup [.str z])) q1 = some (.tup [.str z]) := upd_same
    have s2 : Same F1 (upd F1 q1 (.tup [.str z])) := same_upd (none_of m1.s' nq1)
    have k2 : Tbs ps H (upd H1 q1 (.tup [.str z])) := k1.new nq1
    generalize upd F1 q1 (.tup [.str z]) = F2 at m2 e2 s2
    generalize upd H1 q1 (.tup [.str z]) = H2 at m2 k2 ⊢
    have ol : out.length = rows.length := (map_snd_len eo).trans n1.perm.length_eq
    have hinO : HeapIn F2 p1 out := ⟨s2 _ _ e1, fun r m => s2 _ _ (rf1.row r m), fun r m => s2 _ _ (rf1.doc r m), rf1.flat, rf1.few⟩
    refine ⟨F2, p1, q1, out, [.str z], rfl, m2.s', m2.ft, m2.k.tab, hinO, e2, rfl, by omega, fun H3 l k3 nl el => ?_⟩
    have k3' : Tbs ps H H3 := k2.trans (Tbs.of_tbk k2.tab mS k3)
    have er : reachL [V.str z] out = (upN o2 z).map V.str := by
      rw [reach_snd eo]
      exact reach_up (fun r m => tx_of tx (n1.perm.subset m)) z
    rw [er] at el
    refine ⟨l, _, rfl, SqT.of el, fun b nb => ?_⟩
    have k4 : Tbs ps H (upd H3 b (.tup ((upN o2 z).map V.str).reverse)) := k3'.new nb
    refine ⟨k4.tab pB mB, b, c, _, cs.map V.str, rfl, SqT.of upd_same, rfl, SqT.of (k4.tup tt ec), ?_, flat_strs cs, fun H5 tb5 l5 nl5 => ?_⟩
    · rw [← List.map_reverse]
      exact flat_strs _
    have k5 : Tbs ps H H5 := k4.trans (Tbs.one k4.tab mB tb5)
    have le : (upN rows z).Perm (upN o2 z) := up_leq (n1.leq tx.rnd (doc_rows fun r m => tx_of tx m)) tx.rnd (fun r m => tx_of tx m) z
    have ndu : (upN o2 z).Nodup := le.nodup_iff.mp (up_nd (ap_of tx) z)
    have ef : ((upN o2 z).map V.str).reverse.filter (fun x => false ^^ inV x (cs.map V.str)) = ((upN o2 z).reverse.filter fun y => decide (y ∈ cs)).map V.str := by
      rw [← List.map_reverse, List.filter_map]
      congr 1
      refine List.filter_congr fun y _ => ?_
      show (false ^^ inV (V.str y) (cs.map V.str)) = _
      rw [Bool.false_xor, in_dec]
    rw [ef]
    refine q _ l5 _ (k5.new nl5) (k5.free nl5).1 upd_same (((List.reverse_perm _).nodup_iff.mpr ndu).sublist List.filter_sublist) fun y => ?_
    rw [List.mem_filter, List.mem_reverse, decide_eq_true_iff, ← le.mem_iff, up_le tx]
    exact And.comm
theorem ok_ft {f c0 fN fU pS pB : Addr} {fd fdN fdU : FuncData} {ps : List Addr} (F : Fun K "forth_set" "forth_set" sFt f fd) (hc0 : fd.code = .ref c0) (TB : GxR.TabB base mg c0 pB) (mS : pS ∈ ps) (mB : pB ∈ ps) (DNo : Df K mg "normal" sNo ["heap"] fN fdN) (GNo : FnOk P w K mg base CX0 3 fN fdN ["heap"] (spNorm pS)) (DDn : Df K mg "down" sDown ["heap", "names"] fU fdU) (GDn : FnOk P w K mg base CX0 3 fU fdU ["heap", "names"] (spUp pS downL)) (T : Bl mg) :
    FnOk P w K mg base CX0 4 f fd ["heap", "cut", "name"] (spSet ps fun rows cs z y => y ∉ cs ∧ Le rows y z) := by
  refine okC F hc0 scFt (fun vs H Q E h => ?_) (fun A outer s H vs Q E hr h => ?_)
  · obtain ⟨t, c, rows, zs, cs, z, rfl, _⟩ := h
    rfl
  · obtain ⟨t, c, rows, zs, cs, z, rfl, tt, hin, rl, tx, ec, q⟩ := h
    refine ⟨_, (pss_one (ps_ret (pe_tupF true (j := 1) hr (by rfl) T.tuple TB rfl (gen_scopeF (o := "cut") rfl rfl (by decide +kernel) rfl rfl ⟨_, rfl⟩) (pe_call GDn hr (by rfl) DDn.g DDn.F.kp DDn.b .nil pass0 (pa_cons (pe_call GNo hr (by rfl) DNo.g DNo.F.kp DNo.b .nil pass0 (pa_cons (pv 0) pa_nil)) (pa_cons (pe_tup (pa_cons (pv 2) pa_nil)) pa_nil))) rfl rfl rfl rfl (fun cells c h => by
      show (some ((cells.lookup (Str.ofString "cut")).getD 0)) = some c
      rw [h]
      rfl)))), ?_⟩
    have hinW := offs_heap tt hin
    have sW : Same (offs ps H) H := offs_same (Same.refl _)
    refine ⟨.ref t, rfl, offs ps H, t, rows, rfl, sW, offs_tb mS, tt pS mS, hinW.at_, hinW.rowsF tx, ap_of tx, by omega, fun H1 F1 p1 out o2 m1 np1 e1 n1 eo rf1 => ?_⟩
    have k1 : Tbs ps H H1 := Tbs.of_tbk tt mS m1.k
    refine ⟨.str z, rfl, by show 1 ≤ sizeLine; decide, fun q1 nq1 => ?_⟩
    have m2 := m1.new (o := .tup [.str z]) nq1
    have e2 : (upd F1 q1 (.tup [.str z])) q1 = some (.tup [.str z]) := upd_same
    have s2 : Same F1 (upd F1 q1 (.tup [.str z])) := same_upd (none_of m1.s' nq1)
    have k2 : Tbs ps H (upd H1 q1 (.tup [.str z])) := k1.new nq1
    generalize upd F1 q1 (.tup [.str z]) = F2 at m2 e2 s2
    generalize upd H1 q1 (.tup [.str z]) = H2 at m2 k2 ⊢
    have ol : out.length = rows.length := (map_snd_len eo).trans n1.perm.length_eq
    have hinO : HeapIn F2 p1 out := ⟨s2 _ _ e1, fun r m => s2 _ _ (rf1.row r m), fun r m => s2 _ _ (rf1.doc r m), rf1.flat, rf1.few⟩
    refine ⟨F2, p1, q1, out, [.str z], rfl, m2.s', m2.ft, m2.k.tab, hinO, e2, rfl, by omega, fun H3 l k3 nl el => ?_⟩
    have k3' : Tbs ps H H3 := k2.trans (Tbs.of_tbk k2.tab mS k3)
    have er : downL [V.str z] out = (dnN o2 z).map V.str := by
      rw [down_snd eo]
      exact down_dn (fun r m => tx_of tx (n1.perm.subset m)) z
    rw [er] at el
    refine ⟨k3'.tab pB mB, l, c, _, cs.map V.str, rfl, SqT.of el, rfl, SqT.of (k3'.tup tt ec), flat_strs _, flat_strs cs, fun H5 tb5 l5 nl5 => ?_⟩
    have k5 : Tbs ps H H5 := k3'.trans (Tbs.one k3'.tab mB tb5)
    have le : (dnN rows z).Perm (dnN o2 z) := dn_leq (n1.leq tx.rnd (doc_rows fun r m => tx_of tx m)) tx.rnd (fun r m => tx_of tx m) z
    have ndu : (dnN o2 z).Nodup := le.nodup_iff.mp (dn_nd (ap_of tx) z)
    have ef : ((dnN o2 z).map V.str).filter (fun x => true ^^ inV x (cs.map V.str)) = ((dnN o2 z).filter fun y => !decide (y ∈ cs)).map V.str := by
      rw [List.filter_map]
      congr 1
      refine List.filter_congr fun y _ => ?_
      show (true ^^ inV (V.str y) (cs.map V.str)) = _
      rw [Bool.true_xor, in_dec]
    rw [ef]
    refine q _ l5 _ (k5.new nl5) (k5.free nl5).1 upd_same (ndu.sublist List.filter_sublist) fun y => ?_
    rw [List.mem_filter, ← le.mem_iff, dn_le tx, Bool.not_eq_true', decide_eq_false_iff_not]
    exact And.comm
end
end Cu

namespace Cu
open PySem PySem.Spec PyProof.Rows L2
abbrev sUn : Stmt := topS 13
abbrev nUn : List Str := ["heap", "cut", "document", "done", "name"]
theorem scUn : FnScope nUn ["heap", "cut", "document"] (defScope sUn) := ⟨rfl, rfl, rfl, by decide +kernel, rfl, by decide +kernel, by decide +kernel⟩
abbrev sRd : Stmt := topS 14
abbrev nRd : List Str := ["heap", "cut", "document", "undone", "name"]
theorem scRd : FnScope nRd ["heap", "cut", "document"] (defScope sRd) := ⟨rfl, rfl, rfl, by decide +kernel, rfl, by decide +kernel, by decide +kernel⟩
theorem list_ls {rows : List Row} {zs : List Str} (tx : Texts rows zs) (d : Str) : (rows.filter fun r => inV (.str d) r.2.2.2).map (fun r => r.2.1) = (lsN rows d).map V.str := by
  unfold lsN
  rw [List.map_map]
  have e : rows.filter (fun r => inV (.str d) r.2.2.2) = rows.filter (hasD d) := by
    refine List.filter_congr fun r m => ?_
    rw [Bool.eq_iff_iff, in_str (tx_of tx m).ds, has_iff]
  rw [e]
  exact List.map_congr_left fun r m => (tx_of tx (List.mem_filter.mp m).1).nm
theorem ls_len {rows : List Row} (d : Str) : (lsN rows d).length ≤ rows.length := by
  unfold lsN
  rw [List.length_map]
  exact List.length_filter_le _ _
theorem ls_zs {rows : List Row} {zs : List Str} (tx : Texts rows zs) {d y : Str} (m : y ∈ lsN rows d) : y ∈ zs := by
  rw [← nm_zs tx]
  exact (List.filter_sublist.map nmR).subset m
theorem at_end (xs : List V) (x : V) : atI (xs ++ [x]) (-1) = some x := atI_last xs x
section
variable {P : Program} {w : World} {K : PySem.W.Frag} {mg : Str → Option Value} {base : Heap}
def spUn (ps : List Addr) : Sp := fun vs H Q _ => ∃ (t c : Addr) (rows : List Row) (zs cs : List Str) (d z : Str) (dn : List Str), vs = [.ref t, .ref c, .str d] ∧ (∀ p ∈ ps, GxR.TabG H p) ∧ HeapIn H t rows ∧ rows.length ≤ 40 ∧ Texts rows zs ∧ H c = some (.tup (cs.map V.str)) ∧ (lsN rows d).filter (fun y => decide (y ∈ cs)) = dn ++ [z] ∧
  ∀ H' p (ns : List Str), Tbs ps H H' → H p = none → H' p = some (.tup (ns.map V.str)) → ns.Nodup → (∀ y, y ∈ ns ↔ y ∈ cs ∧ Le rows z y) → Q (.ref p) H'
theorem ok_un {f fL fB pL : Addr} {fd fdL fdB : FuncData} {ps : List Addr} {k : Nat} (F : Fun K "undo_set" "undo_set" sUn f fd) (mL : pL ∈ ps) (DLi : Df K mg "list_of" sListOf ["heap", "document"] fL fdL) (GLi : FnOk P w K mg base CX0 1 fL fdL ["heap", "document"] (spList K pL)) (DBk : Df K mg "back_set" sBk ["heap", "cut", "name"] fB fdB) (GBk : FnOk P w K mg base CX0 4 fB fdB ["heap", "cut", "name"] (spSet ps fun rows cs z y => y ∈ cs ∧ Le rows z y)) (T : Bl mg) :
    FnOk P w K mg base CX0 (k + 5) f fd ["heap", "cut", "document"] (spUn ps) := by
  refine F.ok scUn (fun vs H Q E h => ?_) (fun cdv A outer s H vs Q E hr h => ?_)
  · obtain ⟨t, c, rows, zs, cs, d, z, dn, rfl, _⟩ := h
    rfl
  · obtain ⟨t, c, rows, zs, cs, d, z, dn, rfl, tt, hin, rl, tx, ec, hdn, q⟩ := h
    refine ⟨_, (pss_cons (ps_setLc (i := 3) (own := [("name", 4)]) (g := gName 4) rfl scUn.nd rfl rfl (sw_true rfl rfl rfl (by decide +kernel)) (pi_tup (pe_call GLi (hr.mono (by omega)) (by rfl) DLi.g DLi.F.kp DLi.b .nil pass0 (pa_cons (pv 0) (pa_cons (pv 2) pa_nil)))) (blkOk_by (own := [("name", 4)]) (N := nUn) (sc := defScope sUn) (by decide +kernel)) (fun _ _ _ _ _ => (pg_name (i := 4) scUn.nd rfl (.inl rfl))) (fun _ _ _ _ _ => (pts_one (pt_cmpR (show OpR _ (compareOp .In) (rIn K false) from op_in_seq) (pv 4) (pv 1) (by rfl)))) (fun _ _ _ _ _ => (pv 4)))
  (pss_cons (ps_if (pt_not (pt_truth (pv 3) (by intro _; rfl)))
  (pss_one ps_never)
  pss_nil)
  (pss_one (ps_ret (pe_call GBk (hr.mono (by omega)) (by rfl) DBk.g DBk.F.kp DBk.b .nil pass0 (pa_cons (pv 0) (pa_cons (pv 1) (pa_cons (pe_ix ix_list (pv 3) (pe_un un_neg pe_int) (fun _ _ => rfl)) pa_nil)))))))), ?_⟩
    refine ⟨.ref t, rfl, .str d, rfl, .ref t, .str d, rows, rfl, tt pL mL, hin.rows, rfl, fun H2 tb2 l nl => ?_⟩
    rw [list_ls tx]
    have k2 : Tbs ps H H2 := Tbs.one tt mL tb2
    have k3 : Tbs ps H (upd H2 l (.tup ((lsN rows d).map V.str))) := k2.new nl
    have el : (upd H2 l (.tup ((lsN rows d).map V.str))) l = _ := upd_same
    generalize upd H2 l (.tup ((lsN rows d).map V.str)) = H3 at k3 el ⊢
    refine ⟨_, rfl, ⟨_, SqT.of el⟩, fun D nD => ?_⟩
    have ll := ls_len (rows := rows) d
    refine filt_tup (l := lsN rows d) (enc := V.str) (out := V.str) (p := fun y => decide (y ∈ cs)) el nD (by omega) (fun y my J sJ R h => ?_) fun J eD sJ => ?_
    · refine h _ rfl (fun Q hq => ?_) (fun Q hq => ⟨_, rfl, hq⟩)
      refine ⟨_, rfl, .ref c, rfl, c, _, rfl, .inr (SqT.of (sJ _ _ (k3.tup tt ec))), rfl, flat_strs cs, _, rfl, ?_⟩
      show Q (inV (.str y) (cs.map V.str)) J
      rw [in_dec]
      exact hq
    rw [hdn] at eD
    have kJ : Tbs ps H J := k3.same_ sJ
    refine ⟨.ref D, rfl, true, .inl ⟨_, SqL.of eD, ?_⟩, ?_⟩
    · rw [List.map_append]
      simp
    refine iffF rfl ?_
    have ecJ := kJ.tup tt ec
    refine ⟨.ref t, rfl, .ref c, rfl, .ref D, rfl, 1, rfl, D, _, -1, .str z, rfl, rfl, SqL.of eD, ?_, t, c, rows, zs, cs, z, rfl, kJ.tab, kJ.heap tt hin, rl, tx, ecJ, fun H' p ns k' np ep nd mem => ?_⟩
    · rw [List.map_append]
      exact at_end _ _
    · exact q H' p ns (kJ.trans k') (kJ.free np).1 ep nd mem
def spRd (ps : List Addr) : Sp := fun vs H Q _ => ∃ (t c : Addr) (rows : List Row) (zs cs : List Str) (d z : Str) (dn : List Str), vs = [.ref t, .ref c, .str d] ∧ (∀ p ∈ ps, GxR.TabG H p) ∧ HeapIn H t rows ∧ rows.length ≤ 40 ∧ Texts rows zs ∧ H c = some (.tup (cs.map V.str)) ∧ (lsN rows d).filter (fun y => !decide (y ∈ cs)) = z :: dn ∧
  ∀ H' p (ns : List Str), Tbs ps H H' → H p = none → H' p = some (.tup (ns.map V.str)) → ns.Nodup → (∀ y, y ∈ ns ↔ y ∉ cs ∧ Le rows y z) → Q (.ref p) H'
theorem ok_rd {f fL fB pL : Addr} {fd fdL fdB : FuncData} {ps : List Addr} {k : Nat} (F : Fun K "redo_set" "redo_set" sRd f fd) (mL : pL ∈ ps) (DLi : Df K mg "list_of" sListOf ["heap", "document"] fL fdL) (GLi : FnOk P w K mg base CX0 1 fL fdL ["heap", "document"] (spList K pL)) (DFt : Df K mg "forth_set" sFt ["heap", "cut", "name"] fB fdB) (GFt : FnOk P w K mg base CX0 4 fB fdB ["heap", "cut", "name"] (spSet ps fun rows cs z y => y ∉ cs ∧ Le rows y z)) (T : Bl mg) :
    FnOk P w K mg base CX0 (k + 5) f fd ["heap", "cut", "document"] (spRd ps) := by
  refine F.ok scRd (fun vs H Q E h => ?_) (fun cdv A outer s H vs Q E hr h => ?_)
  · obtain ⟨t, c, rows, zs, cs, d, z, dn, rfl, _⟩ := h
    rfl
  · obtain ⟨t, c, rows, zs, cs, d, z, dn, rfl, tt, hin, rl, tx, ec, hdn, q⟩ := h
    refine ⟨_, (pss_cons (ps_setLc (i := 3) (own := [("name", 4)]) (g := gName 4) rfl scRd.nd rfl rfl (sw_true rfl rfl rfl (by decide +kernel)) (pi_tup (pe_call GLi (hr.mono (by omega)) (by rfl) DLi.g DLi.F.kp DLi.b .nil pass0 (pa_cons (pv 0) (pa_cons (pv 2) pa_nil)))) (blkOk_by (own := [("name", 4)]) (N := nRd) (sc := defScope sRd) (by decide +kernel)) (fun _ _ _ _ _ => (pg_name (i := 4) scRd.nd rfl (.inl rfl))) (fun _ _ _ _ _ => (pts_one (pt_cmpR (show OpR _ (compareOp .NotIn) (rIn K true) from op_notIn_seq) (pv 4) (pv 1) (by rfl)))) (fun _ _ _ _ _ => (pv 4)))
  (pss_cons (ps_if (pt_not (pt_truth (pv 3) (by intro _; rfl)))
  (pss_one ps_never)
  pss_nil)
  (pss_one (ps_ret (pe_call GFt (hr.mono (by omega)) (by rfl) DFt.g DFt.F.kp DFt.b .nil pass0 (pa_cons (pv 0) (pa_cons (pv 1) (pa_cons (pe_ix ix_list (pv 3) pe_int (fun _ _ => rfl)) pa_nil)))))))), ?_⟩
    refine ⟨.ref t, rfl, .str d, rfl, .ref t, .str d, rows, rfl, tt pL mL, hin.rows, rfl, fun H2 tb2 l nl => ?_⟩
    rw [list_ls tx]
    have k2 : Tbs ps H H2 := Tbs.one tt mL tb2
    have k3 : Tbs ps H (upd H2 l (.tup ((lsN rows d).map V.str))) := k2.new nl
    have el : (upd H2 l (.tup ((lsN rows d).map V.str))) l = _ := upd_same
    generalize upd H2 l (.tup ((lsN rows d).map V.str)) = H3 at k3 el ⊢
    refine ⟨_, rfl, ⟨_, SqT.of el⟩, fun D nD => ?_⟩
    have ll := ls_len (rows := rows) d
    refine filt_tup (l := lsN rows d) (enc := V.str) (out := V.str) (p := fun y => !decide (y ∈ cs)) el nD (by omega) (fun y my J sJ R h => ?_) fun J eD sJ => ?_
    · refine h _ rfl (fun Q hq => ?_) (fun Q hq => ⟨_, rfl, hq⟩)
      refine ⟨_, rfl, .ref c, rfl, c, _, rfl, .inr (SqT.of (sJ _ _ (k3.tup tt ec))), rfl, flat_strs cs, _, rfl, ?_⟩
      show Q (!inV (.str y) (cs.map V.str)) J
      rw [in_dec]
      exact hq
    rw [hdn] at eD
    have kJ : Tbs ps H J := k3.same_ sJ
    refine ⟨.ref D, rfl, true, .inl ⟨_, SqL.of eD, rfl⟩, ?_⟩
    refine iffF rfl ?_
    have ecJ := kJ.tup tt ec
    refine ⟨.ref t, rfl, .ref c, rfl, .ref D, rfl, D, _, 0, .str z, rfl, rfl, SqL.of eD, (show atI ((z :: dn).map V.str) ((0 : Nat) : Int) = some (V.str z) from atI_nat rfl), t, c, rows, zs, cs, z, rfl, kJ.tab, kJ.heap tt hin, rl, tx, ecJ, fun H' p ns k' np ep nd mem => ?_⟩
    exact q H' p ns (kJ.trans k') (kJ.free np).1 ep nd mem
end
end Cu

/-! ### sorted(l) of tuples of which the first is empty -/
namespace Cu
open PySem PySem.Calls PyProof.Rows PySem.SeqAt PySem.W
section
variable {prog : Program} {w : World} {A : Around} {E : Value → Shared → Prop} {s : Shared}
theorem call_tuple_lt {Q : Value → Shared → Prop} {l b : Addr} {items items2 : Array Value} {e r : Nat → Bool} (hl : s.heap.IsTuple l items) (hb : s.heap.IsTuple b items2)
    (he : ∀ j (h1 : j < items.size) (h2 : j < items2.size), EqAt A.in1 s items[j] items2[j] (e j)) (hr : ∀ j (h1 : j < items.size) (h2 : j < items2.size), e j = false → RcLt A.in1 s items[j] items2[j] (r j))
    (h : Q (.bool (firstLt e r (decide (items.size < items2.size)) (List.range (min items.size items2.size)))) s) : wpAny (model prog w) A (call (.builtin "tuple.__lt__") [.ref l, .ref b]) Q E s := by
  obtain ⟨⟨cls, dd, data, sl⟩, ho, hc, n, hd⟩ := id hl
  obtain ⟨⟨cls2, dd2, data2, sl2⟩, ho2, hc2, n2, hd2⟩ := id hb
  simp only at hc hd hc2 hd2
  subst hc hd hc2 hd2
  exact call_meets F.slot_tuple_lt ⟨_, ho, rfl⟩ F.entry_tuple_lt (F.args_tuple_lt_2 _ _) (tuple_ltAt l b items items2 n n2 dd dd2 sl sl2 e r) ⟨ho, ho2, he, hr, h⟩
theorem oneLt_tup {xs ys : List PyData} {a b : Value} {as bs : List Addr} {Q : Bool → Shared → Prop} (ra : Reads s.heap a (.tuple xs) as) (rb : Reads s.heap b (.tuple ys) bs) (hal : alikeAll xs ys = true)
    (hu : A.units + min (PyData.tuple xs).depth (PyData.tuple ys).depth < cLine) (hq : Q (dataLt (.tuple xs) (.tuple ys)) s) : wpAny (model prog w) A (oneLt' true a b) Q E s := by
  cases ra with
  | @tuple l o vs n _ as₁ h1 h2 h3 h4 =>
    cases rb with
    | @tuple l' o' vs' n' _ bs₁ k1 k2 k3 k4 =>
      have n1 : vs.size = xs.length := by simpa using ReadsAll.length _ _ _ h4
      have n2 : vs'.size = ys.length := by simpa using ReadsAll.length _ _ _ k4
      rw [dataLt_tuple, ← firstLt_toks xs ys hal, ← n1, ← n2] at hq
      rw [oneLt'_eq]
      simp only [if_true]
      refine wpAny_bind (wpAny_cRoomFor (room_here hu) ?_)
      refine wpAny_bind (wpAny_callSpecialIfBound?_slot (T := "tuple") ⟨_, h1, h2⟩ F.slot_tuple_lt (call_tuple_lt (e := pairEq xs ys) (r := fun j => dataLt (xs.getD j .none) (ys.getD j .none)) ⟨_, h1, h2, _, h3⟩ ⟨_, k1, k2, _, k3⟩ (fun j j1 j2 => ?_) (fun j j1 j2 hj => ?_) ?_))
      · have := eqAt_alikeAll xs ys A.in1 s vs.toList vs'.toList _ _ h4 k4 hal (room_in hu) j (by simpa using j1) (by simpa using j2)
        simpa using this
      · have := rcLt_alikeAll xs ys A.in1 s vs.toList vs'.toList _ _ h4 k4 hal (room_in hu) j (by simpa using j1) (by simpa using j2) hj
        simpa using this
      · exact wpAny_truthy_bool hq
end
section
variable {M : Model} {A : Around} {E : Value → Shared → Prop} {s : Shared}
theorem firsts_tup : ∀ (vs : List Value) {Q : List (Option Value) → Shared → Prop}, (∀ v ∈ vs, ∃ a o xs n, v = Value.ref a ∧ s.heap.get? a = some o ∧ o.cls = .type "tuple" ∧ o.data = .seq xs n) →
    (∀ fs : List (Option Value), (∀ v r, vs = v :: r → ∀ a o n, v = Value.ref a → s.heap.get? a = some o → o.data = .seq #[] n → ∃ r', fs = none :: r') → Q fs s) → wpAny M A (vs.mapM firstOfTuple') Q E s
  | [], _, _, h => by
    rw [List.mapM_nil]
    exact wpAny_pure (h [] fun v r e => by cases e)
  | v :: vs, Q, t, h => by
    obtain ⟨a, o, xs, n, rfl, ho, hc, hd⟩ := t v List.mem_cons_self
    rw [List.mapM_cons]
    refine wpAny_bind ?_
    rw [kas_first_eq]
    refine wpAny_bind (Looks.here (show Looks M s.heap (typeOf (.ref a)) o.cls from (Looks.ld ho).andThen .now) ?_)
    rw [hc, if_neg (by first | decide | simp)]
    refine wpAny_bind (listItems_at ho hd (wpAny_pure ?_))
    refine wpAny_bind (firsts_tup vs (Q := fun bs s' => wpAny M A (pure (xs[0]? :: bs)) Q E s') (fun u m => t u (List.mem_cons_of_mem _ m)) fun fs _ => wpAny_pure (h _ ?_))
    rintro v' r' e a' o' n' rfl e2 e3
    cases (List.cons.inj e).1
    rw [ho] at e2
    cases e2
    rw [hd] at e3
    cases e3
    exact ⟨fs, rfl⟩
theorem kind_tup0 {a0 : Addr} {o0 : Obj} {n0 : Nat} {rest : List Value} {Q : SortKind → Shared → Prop} (h0 : s.heap.get? a0 = some o0) (c0 : o0.cls = .type "tuple") (d0 : o0.data = .seq #[] n0) (t : ∀ v ∈ rest, ∃ a o xs n, v = Value.ref a ∧ s.heap.get? a = some o ∧ o.cls = .type "tuple" ∧ o.data = .seq xs n) (h : Q oneType' s) :
    wpAny M A (keyKind' (Value.ref a0 :: rest).toArray) Q E s := by
  have tt : ∀ v ∈ Value.ref a0 :: rest, ∃ a o xs n, v = Value.ref a ∧ s.heap.get? a = some o ∧ o.cls = .type "tuple" ∧ o.data = .seq xs n := fun v m => by
    rcases List.mem_cons.mp m with rfl | m
    · exact ⟨a0, o0, _, n0, rfl, h0, c0, d0⟩
    · exact t v m
  rw [keyKind'_eq, List.mapM_toArray, map_eq_pure_bind]
  refine wpAny_bind (wpAny_bind (firsts_tup _ tt fun fs hf => wpAny_pure ?_))
  obtain ⟨fr, rfl⟩ := hf _ _ rfl a0 o0 n0 rfl h0 d0
  rw [if_neg (by simp), if_neg (by simp)]
  rw [oneTypeOnly'_eq, List.mapM_toArray, map_eq_pure_bind]
  refine wpAny_bind (wpAny_bind (wpAny_bind (kas_mapM (r := Value.type "tuple") _ (fun v hv Q' hq => ?_) (wpAny_pure ?_))))
  · obtain ⟨a, o, xs, n, rfl, ho, hc, _⟩ := tt v hv
    refine Looks.here (show Looks M s.heap (typeOf (.ref a)) (.type "tuple") from hc ▸ (Looks.ld ho).andThen .now) hq
  · have hall : ((List.map (fun _ => Value.type "tuple") (Value.ref a0 :: rest)).toArray.all fun x => x == Value.type "tuple") = true := by
      simp only [List.all_toArray, List.all_map, List.all_eq_true]
      intro _ _
      exact beq_self_eq_true _
    have e0 : (List.map (fun _ => Value.type "tuple") (Value.ref a0 :: rest)).toArray[0]? = some (Value.type "tuple") := by simp
    rw [e0]
    simp only [hall, if_true]
    exact wpAny_pure (wpAny_pure h)
end
section
variable {prog : Program} {w : World} {A : Around} {E : Value → Shared → Prop} {s : Shared} {β : Type} {vs : List Value} {bs : List β} {enc : β → PyData} {R : Value → β → Prop}
theorem sortsAt_tup0 {vs : List Value} {ds : List PyData} (e : EachIs (fun v d => ∃ as, Reads s.heap v d as) vs (.tuple [] :: ds)) (hal : AllAlike (.tuple [] :: ds)) (ht : ∀ d ∈ ds, ∃ xs, d = .tuple xs) (hu : ∀ d, d ∈ PyData.tuple [] :: ds → A.units + d.depth < cLine) : SortsAt prog w A s (dataKind s.heap (.tuple [] :: ds)) vs := by
  have room : ∀ {d d' : PyData}, d ∈ PyData.tuple [] :: ds → A.units + min d.depth d'.depth < cLine := fun {d d'} hd => Nat.lt_of_le_of_lt (Nat.add_le_add_left (Nat.min_le_left _ _) _) (hu d hd)
  have tup : ∀ d ∈ PyData.tuple [] :: ds, ∃ xs, d = .tuple xs := fun d m => by
    rcases List.mem_cons.mp m with rfl | m
    · exact ⟨[], rfl⟩
    · exact ht d m
  refine ⟨fun v hv => ?_, oneType', ?_, fun h2 E Q hq => ?_⟩
  · obtain ⟨d, hd, as, r⟩ := e.left v hv
    exact ⟨_, dataKind_some hal hd r⟩
  · intro E x y a b Q ha hb hq
    obtain ⟨d, as, hd, ra, rfl⟩ := dataKind_inv ha
    obtain ⟨d', as', hd', rb, rfl⟩ := dataKind_inv hb
    have hdd := hal d hd d' hd'
    have hroom := room (d' := d') hd
    obtain ⟨xs, rfl⟩ := tup d hd
    obtain ⟨ys, rfl⟩ := tup d' hd'
    rw [keyLt'_oneType]
    exact oneLt_tup ra rb (by simpa [alike] using hdd) hroom hq
  · cases e with
    | @cons v _ vs' _ h t =>
      obtain ⟨as, r⟩ := h
      cases r with
      | @tuple a0 o0 xs n _ _ g1 g2 g3 g4 =>
        have e0 : xs = #[] := by
          have := ReadsAll.length _ _ _ g4
          simp at this
          exact this
        subst e0
        refine kind_tup0 g1 g2 g3 (fun u mu => ?_) hq
        obtain ⟨d, hd, as, r⟩ := t.left u mu
        obtain ⟨ys, rfl⟩ := ht d hd
        cases r with
        | @tuple a o xs n _ _ k1 k2 k3 k4 => exact ⟨a, o, xs, n, rfl, k1, k2, k3⟩
theorem sorted_tup0 {l : Addr} {b0 : β} {bs : List β} {Q : Value → Shared → Prop} (hl : s.heap.IsList l vs.toArray) (e : EachIs R vs (b0 :: bs)) (er : EachIs (fun v b => ∃ as, Reads s.heap v (enc b) as) vs (b0 :: bs)) (hal : AllAlike ((b0 :: bs).map enc)) (h0 : enc b0 = .tuple []) (ht : ∀ b ∈ bs, ∃ xs, enc b = .tuple xs) (hL : (b0 :: bs).length ≤ sizeLine)
    (hu : ∀ b, b ∈ b0 :: bs → A.units + 2 + (enc b).depth < cLine) (h : ∀ out, out.length = (b0 :: bs).length → EachIs R out ((b0 :: bs).mergeSort (dataLe false enc)) → Q (.ref (s.heap.objs.size + 1)) { s with heap := sortedAll s.heap vs (List.toArray out) }) :
    wpAny (model prog w) A (call (.builtin "sorted") [.ref l]) Q E s := by
  have er' : EachIs (fun v b => ∃ as, Reads (sortingHeap (copyHeap s.heap vs) (s.heap.objs.size + 1) vs) v (enc b) as) vs (b0 :: bs) := er.mono fun _ _ ⟨as, r⟩ => ⟨as, PyProof.Rows.Reads.keeps (fun _ _ => sorting_copy_old) r⟩
  have em : (b0 :: bs).map enc = PyData.tuple [] :: bs.map enc := by rw [List.map_cons, h0]
  have S : SortsAt prog w A.in1.in1 { s with heap := sortingHeap (copyHeap s.heap vs) (s.heap.objs.size + 1) vs } (dataKind (sortingHeap (copyHeap s.heap vs) (s.heap.objs.size + 1) vs) ((b0 :: bs).map enc)) vs := by
    have em2 := each_map (R := fun v d => ∃ as, Reads (sortingHeap (copyHeap s.heap vs) (s.heap.objs.size + 1) vs) v d as) enc er'
    rw [em] at em2 hal ⊢
    refine sortsAt_tup0 (s := { s with heap := sortingHeap (copyHeap s.heap vs) (s.heap.objs.size + 1) vs }) em2 hal (fun d md => ?_) (fun d md => ?_)
    · obtain ⟨b, mb, rfl⟩ := List.mem_map.mp md
      exact ht b mb
    · rw [← em] at md
      obtain ⟨b, mb, rfl⟩ := List.mem_map.mp md
      exact hu b mb
  exact sorted_vals hl S (by rw [e.length]; exact hL) (h _ (by rw [sortVals_length false rfl]; exact e.length) (sortVals_data false e er' hal))
end
end Cu
namespace Cu
open PySem PySem.Spec PyProof.Rows L2
/-- a tuple of texts: where it lies, what it holds -/
abbrev Tp := Addr × List Str
def tpD (b : Tp) : PyData := .tuple (b.2.map PyData.str)
theorem alike_strs : ∀ (xs ys : List Str), PySem.W.alikeAll (xs.map PyData.str) (ys.map PyData.str) = true
  | [], _ => by rw [List.map_nil, PySem.W.alikeAll]
  | x :: xs, [] => by rw [List.map_nil, List.map_cons, PySem.W.alikeAll]
  | x :: xs, y :: ys => by
    rw [List.map_cons, List.map_cons, PySem.W.alikeAll, alike_strs xs ys, PySem.W.alike]
    rfl
theorem depth_strs : ∀ (xs : List Str), PyData.depthAll (xs.map PyData.str) = 0
  | [] => by simp [PyData.depthAll]
  | x :: xs => by simp [PyData.depthAll, PyData.depth, depth_strs xs]
theorem tp_each {K : PySem.W.Frag} {X : Cx} {pins : List (Addr × Obj)} {σ : L2.St} {H : Hp} {s : Shared} (I : Inv X pins σ H s) : ∀ {bs : List Tp} {its : List Value}, Vals (bs.map fun b => V.ref b.1) its → (∀ b ∈ bs, SqT X.K H b.1 (b.2.map V.str)) →
    PySem.W.EachIs (fun v (b : Tp) => v = Value.ref b.1) its bs ∧ PySem.W.EachIs (fun v b => ∃ as, Reads s.heap v (tpD b) as) its bs
  | [], _, r, _ => by
    cases r
    exact ⟨.nil, .nil⟩
  | b :: bs, _, r, h => by
    cases r with
    | cons r1 r2 =>
      obtain ⟨e1, e2⟩ := tp_each (K := K) I r2 fun b m => h b (List.mem_cons_of_mem _ m)
      have rd : Dp X.K H (.ref b.1) (tpD b) := by
        refine .tup (h b List.mem_cons_self) ?_
        have dp : ∀ zs : List Str, DpAll X.K H (zs.map V.str) (zs.map PyData.str) := fun zs => by
          induction zs with
          | nil => exact .nil
          | cons z zs ih => exact .cons (.str z) ih
        exact dp b.2
      cases r1
      obtain ⟨as, q⟩ := Dp.reads I _ _ _ rd rfl
      exact ⟨.cons rfl e1, .cons ⟨as, q⟩ e2⟩
theorem each_refs : ∀ {out : List Value} {bs : List Tp}, PySem.W.EachIs (fun v (b : Tp) => v = Value.ref b.1) out bs → Vals (bs.map fun b => V.ref b.1) out
  | _, _, .nil => .nil
  | _, _, .cons h t => .cons h (each_refs t)
section
variable {X : Cx}
/-- sorted(l) of tuples of texts, the first of them empty -/
def rSortT (K : PySem.W.Frag) : List V → Hp → VK → Prop := fun xs H Q => ∃ (a a0 : Addr) (bs : List Tp), xs = [.ref a] ∧ SqL K H a (((a0, []) :: bs).map fun b => V.ref b.1) ∧ (∀ b ∈ ((a0, []) :: bs : List Tp), SqT K H b.1 (b.2.map V.str)) ∧ ((a0, []) :: bs : List Tp).length ≤ 4000 ∧
    ∀ p, H p = none → Q (.ref p) (upd H p (.lst ((((a0, []) :: bs : List Tp).mergeSort (PySem.W.dataLe false tpD)).map fun b => V.ref b.1)))
theorem call_sortT (hu : X.A.units + 64 < cLine) : CallR X (.builtin "sorted") (rSortT X.K) := by
  intro pins s σ H xs us Q I r q
  obtain ⟨a, a0, bs, ex, hd, hb, hl4, q⟩ := q
  subst ex
  obtain ⟨u, eu, rx⟩ := vals1 r
  subst eu
  cases rx
  obtain ⟨its, rv, hl, hz⟩ := I.list hd
  obtain ⟨e1, e2⟩ := tp_each (K := X.K) I rv hb
  refine sorted_tup0 (enc := tpD) (vs := its) (b0 := (a0, [])) (bs := bs) (R := fun v (b : Tp) => v = Value.ref b.1) hl.isList e1 e2 (PySem.W.AllAlike.of fun b b' => ?_) rfl (fun b _ => ⟨_, rfl⟩) (Nat.le_trans hl4 (by decide)) (fun b _ => ?_) fun out ol eo => ?_
  · unfold tpD
    rw [PySem.W.alike]
    exact alike_strs _ _
  · have : (tpD b).depth ≤ 1 := by
      unfold tpD
      simp only [PyData.depth, depth_strs]
      omega
    omega
  · have I2 : Inv X pins σ (upd H (s.heap.objs.size + 1) (.lst ((((a0, []) :: bs : List Tp).mergeSort (PySem.W.dataLe false tpD)).map fun b => V.ref b.1))) { s with heap := sortedAll s.heap its out.toArray } := by
      refine I.laid (t' := s.toks) (fun b o e => sortedAll_old e) (Nat.le_succ _) (show ObjOk X.prog X.w _ _ _ (.lst _) from ?_)
      obtain ⟨n, en⟩ := sortedAll_at s.heap its out.toArray
      refine ⟨?_, out, n, each_refs eo, en⟩
      rw [List.length_map, List.length_mergeSort]
      exact Nat.le_trans hl4 (by decide)
    exact ⟨.ref (s.heap.objs.size + 1), _, I2, rfl, q _ (I.hok.fresh (Nat.le_succ _))⟩
end
end Cu

namespace Cu
open PySem PySem.Spec PyProof.Rows L2
/-! ### all cuts, one row after another -/
def okBl (bl : Row → List Str) (r : Row) (c : List Str) : Bool := (bl r).all fun o => decide (o ∈ c)
def stepC (bl : Row → List Str) (acc : List (List Str)) (r : Row) : List (List Str) := acc ++ (acc.filter (okBl bl r)).map fun c => c ++ [nmR r]
def allC (bl : Row → List Str) (rows : List Row) : List (List Str) := rows.foldl (stepC bl) [[]]
theorem allC_snoc (bl : Row → List Str) (l : List Row) (r : Row) : allC bl (l ++ [r]) = stepC bl (allC bl l) r := by
  unfold allC
  rw [List.foldl_append]
  rfl
theorem allC_next {bl : Row → List Str} {rows : List Row} {i : Nat} {r : Row} (h : rows[i]? = some r) : allC bl (rows.take (i + 1)) = stepC bl (allC bl (rows.take i)) r := by
  rw [List.take_add_one, h]
  exact allC_snoc _ _ _
theorem allC_head (bl : Row → List Str) (l : List Row) : ∃ t, allC bl l = [] :: t := by
  induction l using snoc_ind with
  | h0 => exact ⟨[], rfl⟩
  | h1 l r ih =>
    obtain ⟨t, e⟩ := ih
    rw [allC_snoc, e]
    exact ⟨_, rfl⟩
theorem allC_len (bl : Row → List Str) (l : List Row) : (allC bl l).length ≤ 2 ^ l.length := by
  induction l using snoc_ind with
  | h0 => exact Nat.le_refl _
  | h1 l r ih =>
    rw [allC_snoc]
    unfold stepC
    rw [List.length_append, List.length_map, List.length_append]
    have := List.length_filter_le (okBl bl r) (allC bl l)
    show _ ≤ 2 ^ (l.length + 1)
    rw [Nat.pow_succ]
    omega
/-- what is below lies ahead -/
theorem below_take {rows : List Row} {i : Nat} {r x : Row} (nd : rows.Nodup) (h : rows[i]? = some r) (p : Path meets rows x r) (ne : x ≠ r) : x ∈ rows.take i := by
  have e : rows = rows.take (i + 1) ++ rows.drop (i + 1) := (List.take_append_drop _ _).symm
  have tk : rows.take (i + 1) = rows.take i ++ [r] := by
    rw [List.take_add_one, h]
    rfl
  rw [e] at p nd
  have p2 := path_less (by rw [tk]; simp) nd p
  have m := (path_mem p2).1
  rw [tk] at m
  rcases List.mem_append.mp m with m | m
  · exact m
  · exact absurd (List.mem_singleton.mp m) ne
section
variable {bl : Row → List Str} {rows : List Row} {zs : List Str}
theorem allC_sound (tx : Texts rows zs) (hb : ∀ r ∈ rows, Below rows r (bl r)) : ∀ i, i ≤ rows.length → ∀ c ∈ allC bl (rows.take i), c.Nodup ∧ (∀ y ∈ c, y ∈ (rows.take i).map nmR) ∧ ∀ a b, b ∈ c → Le rows a b → a ∈ c
  | 0, _, c, m => by
    have : c = [] := List.mem_singleton.mp m
    subst this
    exact ⟨.nil, nofun, fun a b h => (nomatch h)⟩
  | i + 1, hi, c, m => by
    obtain ⟨r, hr⟩ : ∃ r, rows[i]? = some r := ⟨rows[i], List.getElem?_eq_getElem hi⟩
    have mr := List.mem_of_getElem? hr
    have ap := ap_of tx
    have tk : rows.take (i + 1) = rows.take i ++ [r] := by
      rw [List.take_add_one, hr]
      rfl
    rw [allC_next hr] at m
    unfold stepC at m
    rcases List.mem_append.mp m with m | m
    · obtain ⟨h1, h2, h3⟩ := allC_sound tx hb i (by omega) c m
      refine ⟨h1, fun y my => ?_, h3⟩
      rw [tk, List.map_append]
      exact List.mem_append_left _ (h2 y my)
    · obtain ⟨c0, m0, rfl⟩ := List.mem_map.mp m
      obtain ⟨mc, ok⟩ := List.mem_filter.mp m0
      obtain ⟨h1, h2, h3⟩ := allC_sound tx hb i (by omega) c0 mc
      have out : nmR r ∉ c0 := fun z => by
        have nd2 : ((rows.take (i + 1)).map nmR).Nodup := ap.sub (List.take_sublist _ _)
        rw [tk, List.map_append] at nd2
        exact (List.nodup_append.mp nd2).2.2 _ (h2 _ z) _ (List.mem_singleton.mpr rfl) rfl
      refine ⟨?_, fun y my => ?_, fun a b mb le => ?_⟩
      · exact List.nodup_append.mpr ⟨h1, List.nodup_cons.mpr ⟨List.not_mem_nil, .nil⟩, fun a ma b mb e => out (by
          rw [List.mem_singleton.mp mb] at e
          rw [← e]
          exact ma)⟩
      · rw [tk, List.map_append]
        rcases List.mem_append.mp my with my | my
        · exact List.mem_append_left _ (h2 y my)
        · exact List.mem_append_right _ my
      · rcases List.mem_append.mp mb with mb | mb
        · exact List.mem_append_left _ (h3 a b mb le)
        · have eb : b = nmR r := List.mem_singleton.mp mb
          obtain ⟨x, r', ea, eb', p⟩ := le
          have er : r' = r := ap.one (path_mem p).2 mr (eb'.trans eb)
          subst er
          by_cases xr : x = r'
          · rw [← ea, xr]
            exact List.mem_append_right _ (List.mem_singleton.mpr rfl)
          · refine List.mem_append_left _ ?_
            have mbl : a ∈ bl r' := ((hb r' mr).mem a).mpr ⟨x, (path_mem p).1, (nm_str tx (path_mem p).1).mpr ea, xr, p⟩
            exact of_decide_eq_true (List.all_eq_true.mp ok a mbl)
theorem allC_full (tx : Texts rows zs) (hb : ∀ r ∈ rows, Below rows r (bl r)) {S : Str → Bool} (cl : ∀ a b, S b = true → Le rows a b → S a = true) : ∀ i, i ≤ rows.length → ((rows.take i).map nmR).filter S ∈ allC bl (rows.take i)
  | 0, _ => List.mem_singleton.mpr rfl
  | i + 1, hi => by
    obtain ⟨r, hr⟩ : ∃ r, rows[i]? = some r := ⟨rows[i], List.getElem?_eq_getElem hi⟩
    have mr := List.mem_of_getElem? hr
    have tk : rows.take (i + 1) = rows.take i ++ [r] := by
      rw [List.take_add_one, hr]
      rfl
    have ih := allC_full tx hb cl i (by omega)
    rw [allC_next hr]
    unfold stepC
    rw [tk, List.map_append, List.filter_append]
    by_cases s : S (nmR r) = true
    · refine List.mem_append_right _ (List.mem_map.mpr ⟨_, List.mem_filter.mpr ⟨ih, ?_⟩, ?_⟩)
      · refine List.all_eq_true.mpr fun o mo => decide_eq_true ?_
        obtain ⟨x, mx, ex, xr, p⟩ := ((hb r mr).mem o).mp mo
        have en := (nm_str tx mx).mp ex
        refine List.mem_filter.mpr ⟨?_, cl o (nmR r) s ⟨x, r, en, rfl, p⟩⟩
        rw [← en]
        exact List.mem_map_of_mem (below_take tx.rnd hr p xr)
      · show _ ++ [nmR r] = _ ++ List.filter S [nmR r]
        rw [List.filter_cons_of_pos s]
        rfl
    · refine List.mem_append_left _ ?_
      show _ ++ List.filter S [nmR r] ∈ _
      rw [List.filter_cons_of_neg s, List.filter_nil, List.append_nil]
      exact ih
theorem cuts_sound (tx : Texts rows zs) (hb : ∀ r ∈ rows, Below rows r (bl r)) {c : List Str} (m : c ∈ allC bl rows) : CutS rows zs (srt c) ∧ c.Nodup := by
  have h := allC_sound tx hb rows.length (Nat.le_refl _) c (by rw [List.take_length]; exact m)
  rw [List.take_length, nm_zs tx] at h
  obtain ⟨h1, h2, h3⟩ := h
  have pm := srt_perm h1
  refine ⟨⟨fun y my => h2 y (pm.subset my), fun a b mb le => pm.symm.subset (h3 a b (pm.subset mb) le), ?_⟩, h1⟩
  obtain ⟨ys, p, a⟩ := asc_ex h1
  rw [srt_eq p a]
  exact a
theorem cuts_full (tx : Texts rows zs) (hb : ∀ r ∈ rows, Below rows r (bl r)) {cs : List Str} (h : CutS rows zs cs) : ∃ c ∈ allC bl rows, srt c = cs := by
  have m := allC_full tx hb (S := fun y => decide (y ∈ cs)) (fun a b s le => decide_eq_true (h.c a b (of_decide_eq_true s) le)) rows.length (Nat.le_refl _)
  rw [List.take_length, nm_zs tx] at m
  refine ⟨_, m, srt_eq ?_ h.a⟩
  rw [List.perm_ext_iff_of_nodup (pw_nodup h.a) (tx.nd.sublist List.filter_sublist)]
  intro y
  rw [List.mem_filter, decide_eq_true_iff]
  exact ⟨fun m => ⟨h.z y m, m⟩, fun m => m.2⟩
end
/-- tuples of texts that stand -/
def Tps (H : Hp) (bs : List Tp) : Prop := ∀ b ∈ bs, H b.1 = some (.tup (b.2.map V.str))
theorem Tps.more {H H' : Hp} {bs : List Tp} (h : Tps H bs) (s : Same H H') : Tps H' bs := fun b m => s _ _ (h b m)
theorem Tps.put {H : Hp} {bs : List Tp} {l : Addr} {xs : List V} {o : HO} (h : Tps H bs) (e : H l = some (.lst xs)) : Tps (upd H l o) bs := fun b m => by
  rw [upd_ne]
  · exact h b m
  · intro z
    have := h b m
    rw [z, e] at this
    cases this
theorem Tps.app {H : Hp} {bs cs : List Tp} (h : Tps H bs) (g : Tps H cs) : Tps H (bs ++ cs) := fun b m => by
  rcases List.mem_append.mp m with m | m
  · exact h b m
  · exact g b m
def rTupOf (K : PySem.W.Frag) : List V → Hp → VK → Prop := fun xs H Q => ∃ p ys, xs = [.ref p] ∧ ((SqL K H p ys ∧ ∀ l, H l = none → Q (.ref l) (upd H l (.tup ys))) ∨ (SqT K H p ys ∧ Q (.ref p) H))
def rSortTu (K : PySem.W.Frag) : List V → Hp → VK → Prop := fun xs H Q => ∃ (a : Addr) (ks : List Str), xs = [.ref a] ∧ SqT K H a (ks.map V.str) ∧ ks.length < 64 ∧ ∀ ys p, ys.Perm ks → sortedS ys = true → H p = none → Q (.ref p) (upd H p (.lst (ys.map V.str)))
abbrev sAC : Stmt := topS 24
abbrev nAC : List Str := ["_law_heap_here", "_law_order_here", "_law_found", "_law_name", "_law_documents", "_law_cut", "_law_other"]
theorem scAC : FnScope nAC ["_law_heap_here"] (defScope sAC) := ⟨rfl, rfl, rfl, by decide +kernel, rfl, by decide +kernel, by decide +kernel⟩
abbrev scInC : Scope := { kind := .function, names := [(".0", .local), ("_law_cut", .cell), ("all", .globalImplicit), ("_law_name", .cell), ("_law_order_here", .cell)], isGenerator := false, isCoroutine := false }
section
variable {P : Program} {w : World} {K : PySem.W.Frag} {mg : Str → Option Value} {base : Heap}
def spAC : Sp := fun vs H Q _ => ∃ (t : Addr) (rows : List Row) (zs : List Str), vs = [.ref t] ∧ HeapIn H t rows ∧ rows.length ≤ 6 ∧ Texts rows zs ∧
  ∀ H' p (bs : List Tp), Same H H' → H p = none → H' p = some (.lst (bs.map fun b => V.ref b.1)) → Tps H' bs → (∀ b ∈ bs, CutS rows zs b.2) → (∀ cs, CutS rows zs cs → ∃ b ∈ bs, b.2 = cs) → bs.length ≤ 64 → Q (.ref p) H'
theorem ok_ac {f fO : Addr} {fd fdO : FuncData} {k : Nat} (F : Fun K "_law_all_cuts" "_law_all_cuts" sAC f fd) (DOr : Df K mg "_law_order" sOr ["_law_heap_here"] fO fdO) (T : Bl mg) : FnOk P w K mg base CX0 (k + 2) f fd ["_law_heap_here"] spAC := by
  have GOr : FnOk P w K mg base CX0 1 fO fdO _ spOr := ok_order DOr.F T
  refine F.ok scAC (fun vs H Q E h => ?_) (fun cdv A outer s H vs Q E hr h => ?_)
  · obtain ⟨t, rows, zs, rfl, _⟩ := h
    rfl
  · obtain ⟨t, rows, zs, rfl, hin, rl, tx, q⟩ := h
    have hu := hu_of hr
    refine ⟨_, (pss_cons (ps_asg (pe_tup (pa_cons (pe_call GOr (hr.mono (by omega)) (by rfl) DOr.g DOr.F.kp DOr.b .nil pass0 (pa_cons (pv 0) pa_nil)) (pa_cons (pe_lst (pa_cons (pe_tup pa_nil) pa_nil)) pa_nil))) (pg_tup rfl (pgs_cons (pg_name (i := 1) scAC.nd rfl (.inr rfl)) (pgs_cons (pg_name (i := 2) scAC.nd rfl (.inl rfl)) pgs_nil))))
  (pss_cons (ps_for PassesOwn.never rfl (pi_tup (pv 0)) (pg_tup rfl (pgs_cons (pg_name (i := 3) scAC.nd rfl (.inr rfl)) (pgs_cons (pg_name (i := 4) scAC.nd rfl (.inl rfl)) pgs_nil)))
  (pss_one (ps_set (i := 2) scAC.nd rfl (.inl rfl) (pe_op op_cat (pv 2) (pe_lc (own := [("_law_cut", 5)]) (g := gName 5) (tt := tB (tCB (rAll K) (tCons (tLc (iList K (tDGet (tVar 1) (tVar 3))) (gName 6) tYes (tOp (rIn K false) (tVar 6) (tVar 5)) [6]) tNil))) rfl scAC.nd (pi_list (pv 2)) (blkOk_by (own := [("_law_cut", 5)]) (N := nAC) (sc := defScope sAC) (by decide +kernel)) (fun _ _ _ _ _ => (pg_name (i := 5) scAC.nd rfl (.inr rfl))) (fun _ _ _ _ _ => (pts_one (pt_val ?e))) (fun _ _ _ _ _ => (pe_op (show OpR _ (binaryOp .Add) (rCatA K) from op_catA) (pv 5) (pe_tup (pa_cons (pv 3) pa_nil)))))))))
  (pss_one (ps_ret (pe_callB (call_sortT hr.units) (by rfl) T.sorted (by decide +kernel) (pa_cons (pe_lc (own := [("_law_cut", 5)]) (g := gName 5) (tt := tYes) rfl scAC.nd (pi_list (pv 2)) (blkOk_by (own := [("_law_cut", 5)]) (N := nAC) (sc := defScope sAC) (by decide +kernel)) (fun _ _ _ _ _ => (pg_name (i := 5) scAC.nd rfl (.inl rfl))) (fun _ _ _ _ _ => pts_nil) (fun _ _ _ _ _ => (pe_callTy (show CallR _ (.type "tuple") (rTupOf K) from call_tuple_of) (by rfl) T.tuple (by decide +kernel) (pa_cons (pe_callB (show CallR _ (.builtin "sorted") (rSortTu K) from call_sortTu) (by rfl) T.sorted (by decide +kernel) (pa_cons (pv 5) pa_nil)) pa_nil)))) pa_nil)))))), ?_⟩
    case e => exact (pe_callB (show CallR _ (.builtin "all") (rAll K) from cr_all rfl) (by rfl) T.all (by decide +kernel) (pa_cons (pe_lc (own := [("_law_other", 6)]) (g := gName 6) (tt := tYes) rfl scAC.nd (pi_list (pe_dget hu (pv 1) (pv 3) (fun _ _ => rfl))) (blkOk_by (own := [("_law_other", 6)]) (N := nAC) (sc := scInC) (by decide +kernel)) (fun _ _ _ _ _ => (pg_name (i := 6) scAC.nd rfl (.inl rfl))) (fun _ _ _ _ _ => pts_nil) (fun _ _ _ _ _ => (pe_cmpR (show OpR _ (compareOp .In) (rIn K false) from op_in_seq) (pv 6) (pv 5) (by rfl)))) pa_nil))
    refine ⟨.ref t, rfl, H, t, rows, zs, rfl, Same.refl _, hin, by omega, tx, fun H1 d es s1 od nd fre => ?_⟩
    refine ⟨by show 0 ≤ sizeLine; decide, fun e0 ne0 => ⟨by show 1 ≤ sizeLine; decide, fun f0 nf0 => ⟨by show 2 ≤ sizeLine; decide, fun tp ntp => ?_⟩⟩⟩
    have se0 := same_upd (o := .tup []) ne0
    have sf0 := same_upd (o := .lst [.ref e0]) nf0
    have stp := same_upd (o := .tup [.ref d, .ref f0]) ntp
    have s2 := (se0.trans sf0).trans stp
    have ef := stp _ _ (upd_same (H := upd H1 e0 (.tup [])) (a := f0) (o := .lst [.ref e0]))
    have ee := stp _ _ (sf0 _ _ (upd_same (H := H1) (a := e0) (o := .tup [])))
    refine ⟨tp, _, rfl, SqT.of upd_same, rfl, _, _, rfl, _, _, rfl, rfl, ?_⟩
    have h1f : H1 f0 = none := se0.free nf0
    generalize upd (upd (upd H1 e0 (.tup [])) f0 (.lst [.ref e0])) tp (.tup [.ref d, .ref f0]) = H2 at s2 ef ee ⊢
    clear se0 sf0 stp
    have sH2 : Same H H2 := s1.trans s2
    let bl : Row → List Str := fun r => gOf es (nmR r)
    have entOf : ∀ r ∈ rows, ∃ e ∈ es, e.1 = nmR r ∧ bl r = e.2.2 ∧ e.2.2.length ≤ rows.length := fun r mr => by
      have mz : nmR r ∈ zs := by
        rw [← nm_zs tx]
        exact List.mem_map_of_mem mr
      rw [← od.all tx] at mz
      obtain ⟨e, me, ee⟩ := List.mem_map.mp mz
      refine ⟨e, me, ee, ?_, (od.short tx me).1⟩
      show gOf es (nmR r) = e.2.2
      rw [← ee, gOf_at (od.nd tx) me]
    have hb : ∀ r ∈ rows, Below rows r (bl r) := fun r mr => by
      obtain ⟨e, me, e1, e2, _⟩ := entOf r mr
      obtain ⟨r', mr', er', be⟩ := od.ent tx me
      have : r' = r := (ap_of tx).one mr' mr (((nm_str tx mr').mp er').trans e1)
      subst this
      rw [e2]
      exact be
    refine ⟨.ref t, rfl, t, rfl, ⟨_, SqT.of (sH2 _ _ hin.at_)⟩, ?_⟩
    refine for_tup (K := K) (a := t) (xs := rows.map fun r => V.ref r.1) (fun i σ J => ∃ y3 y4 y5 y6 fo bs, σ = [some (.ref t), some (.ref d), some (.ref fo), y3, y4, y5, y6] ∧ Same H2 J ∧ J fo = some (.lst (bs.map fun b => V.ref b.1)) ∧ H1 fo = none ∧ Tps J bs ∧ bs.map (fun b => b.2) = allC bl (rows.take i)) ?_ ?_ ?_ ?_
    · exact ⟨_, _, _, _, f0, [(e0, [])], rfl, Same.refl _, ef, h1f, fun b m => by
        rw [List.mem_singleton.mp m]
        exact ee, rfl⟩
    · rintro i σ J _ ⟨_, _, _, _, _, _, _, sJ, _⟩
      exact SqT.of (sJ _ _ (sH2 _ _ hin.at_))
    · rintro i x σ J hx ⟨y3, y4, y5, y6, fo, bs, rfl, sJ, efo, hfo, tps, ebs⟩
      rw [List.getElem?_map] at hx
      obtain ⟨r, hr1, rfl⟩ := Option.map_eq_some_iff.mp hx
      have mr := List.mem_of_getElem? hr1
      have ilt : i < rows.length := (List.getElem?_eq_some_iff.mp hr1).1
      have nmr := (tx_of tx mr).nm
      have bsl : bs.length ≤ 64 := by
        have h1 := congrArg List.length ebs
        rw [List.length_map] at h1
        have h2 := allC_len bl (rows.take i)
        have h3 : 2 ^ (rows.take i).length ≤ 2 ^ 6 := Nat.pow_le_pow_right (by decide) (by rw [List.length_take]; omega)
        omega
      have clen : ∀ b ∈ bs, b.2.length ≤ 40 := fun b mb => by
        have mc : b.2 ∈ allC bl (rows.take i) := by
          rw [← ebs]
          exact List.mem_map_of_mem mb
        obtain ⟨h1, h2, _⟩ := allC_sound tx hb i (by omega) b.2 mc
        have := nodup_len h1 h2
        rw [List.length_map, List.length_take] at this
        omega
      refine ⟨r.1, _, rfl, SqT.of (sJ _ _ (sH2 _ _ (hin.row r mr))), rfl, _, _, rfl, _, _, rfl, rfl, ?_⟩
      rw [nmr]
      refine ⟨.ref fo, rfl, .ref fo, rfl, fo, rfl, ⟨_, SqL.of efo⟩, fun D nD => ?_⟩
      refine lc_list (K := K) (a := fo) (xs := bs.map fun b => V.ref b.1) (fun m J2 => ∃ xs : List Tp, J2 D = some (.lst (xs.map fun b => V.ref b.1)) ∧ Same J J2 ∧ Tps J2 xs ∧ xs.length ≤ m ∧ xs.map (fun b => b.2) = (((bs.take m).map fun b => b.2).filter (okBl bl r)).map fun c => c ++ [nmR r]) ?_ ?_ ?_ ?_
      · exact ⟨[], upd_same, same_upd nD, nofun, Nat.le_refl _, rfl⟩
      · rintro m J2 _ ⟨_, _, s, _⟩
        exact SqL.of (s _ _ efo)
      · rintro m x J2 hx ⟨xs, eD, sJ2, tpx, xl, ex⟩
        rw [List.getElem?_map] at hx
        obtain ⟨b, hb1, rfl⟩ := Option.map_eq_some_iff.mp hx
        have mb := List.mem_of_getElem? hb1
        have mlt : m < bs.length := (List.getElem?_eq_some_iff.mp hb1).1
        obtain ⟨e, me, e1, e2, el⟩ := entOf r mr
        obtain ⟨jj, hjj⟩ := List.getElem?_of_mem me
        have sA : Same H1 J2 := (s2.trans sJ).trans sJ2
        have g0 := DGet.k (k := Sum.inr (nmR r)) (sA _ _ od.at_)
        rw [ent_get (od.nd tx) hjj e1] at g0
        have el2 := sA _ _ (od.lst e me)
        have eb2 := sJ2 _ _ (tps b mb)
        have tk : ((bs.take (m + 1)).map fun b => b.2).filter (okBl bl r) = ((bs.take m).map fun b => b.2).filter (okBl bl r) ++ (if okBl bl r b.2 = true then [b.2] else []) := by
          rw [List.take_add_one, hb1, List.map_append, List.filter_append]
          show _ ++ List.filter _ [b.2] = _
          rw [List.filter_cons, List.filter_nil]
        refine ⟨rfl, ?_⟩
        refine ⟨.ref d, rfl, .str (nmR r), rfl, d, .ref e.2.1, rfl, g0, e.2.1, rfl, ⟨_, SqL.of el2⟩, fun D3 nD3 => ?_⟩
        refine filt_list (l := e.2.2) (enc := V.str) (out := fun o => V.bl (decide (o ∈ b.2))) (p := fun _ => true) el2 nD3 (by omega) (fun o mo J3 sJ3 R h => ?_) fun J3 eD3 sJ3 => ?_
        · refine h _ rfl (fun Q hq => hq) (fun Q hq => ?_)
          refine ⟨.str o, rfl, .ref b.1, rfl, b.1, _, rfl, .inr (SqT.of (sJ3 _ _ eb2)), rfl, flat_strs _, ?_⟩
          show Q (.bl (inV (.str o) (b.2.map V.str))) J3
          rw [in_dec]
          exact hq
        rw [List.filter_eq_self.mpr (fun _ _ => rfl)] at eD3
        refine ⟨D3, e.2.2.map fun o => decide (o ∈ b.2), rfl, SqL.of (by rw [List.map_map]; exact eD3), _, rfl, ?_⟩
        have eok : ((e.2.2.map fun o => decide (o ∈ b.2)).all id) = okBl bl r b.2 := by
          unfold okBl
          rw [e2, List.all_map]
          rfl
        rw [eok]
        by_cases hok : okBl bl r b.2 = true
        · refine iffT hok ?_
          refine ⟨.ref b.1, rfl, .str (nmR r), rfl, by show 1 ≤ sizeLine; decide, fun q1 nq1 => ?_⟩
          have sq1 := same_upd (o := .tup [.str (nmR r)]) nq1
          have bl40 := clen b mb
          refine catX (sq1 _ _ (sJ3 _ _ eb2)) upd_same (by rw [List.length_map]; show _ + 1 ≤ 1000; omega) fun J5 v5 s5 e5 => ?_
          have s25 : Same J2 J5 := (sJ3.trans sq1).trans s5
          refine ⟨_, s25 _ _ eD, small1000 (by rw [List.length_map]; omega), xs ++ [(v5, b.2 ++ [nmR r])], ?_, same_put (sJ2.trans s25) nD, ?_, ?_, ?_⟩
          · rw [upd_same, List.map_append]
            rfl
          · refine Tps.app ((tpx.more s25).put (s25 _ _ eD)) fun b' m' => ?_
            rw [List.mem_singleton.mp m']
            have e5' : J5 v5 = some (.tup ((b.2 ++ [nmR r]).map V.str)) := by
              rw [List.map_append]
              exact e5
            rw [upd_ne]
            · exact e5'
            · intro z
              have z' : v5 = D := z
              rw [z', s25 _ _ eD] at e5
              cases e5
          · rw [List.length_append]
            exact Nat.succ_le_succ xl
          · rw [tk, if_pos hok, List.map_append, List.map_append, ex]
            rfl
        · refine iffF (Bool.eq_false_iff.mpr hok) ?_
          refine ⟨xs, sJ3 _ _ eD, sJ2.trans sJ3, tpx.more sJ3, by omega, ?_⟩
          rw [tk, if_neg hok, List.append_nil]
          exact ex
      rintro J2 ⟨xs, eD, sJ2, tpx, xl, ex⟩
      rw [List.length_map] at xl
      rw [List.length_map, List.take_length, ebs] at ex
      refine ⟨fo, D, _, _, rfl, rfl, sJ2 _ _ efo, eD, Nat.le_trans (show _ ≤ 1000 by rw [List.length_map, List.length_map]; omega) (by decide), fun p np => ?_⟩
      have sp := same_upd (o := .lst ((bs.map fun b => V.ref b.1) ++ xs.map fun b => V.ref b.1)) np
      refine ⟨_, _, _, _, p, bs ++ xs, rfl, (sJ.trans sJ2).trans sp, ?_, ((s2.trans sJ).trans sJ2).free np, Tps.app ((tps.more sJ2).more sp) (tpx.more sp), ?_⟩
      · rw [upd_same, List.map_append]
      · rw [List.map_append, ebs, ex, allC_next hr1]
        rfl
    · rintro σ J ⟨y3, y4, y5, y6, fo, bs, rfl, sJ, efo, hfo, tps, ebs⟩
      rw [List.length_map, List.take_length] at ebs
      have bsl : bs.length ≤ 64 := by
        have h1 := congrArg List.length ebs
        rw [List.length_map] at h1
        have h2 := allC_len bl rows
        have h3 : 2 ^ rows.length ≤ 2 ^ 6 := Nat.pow_le_pow_right (by decide) rl
        omega
      have mcs : ∀ b ∈ bs, b.2 ∈ allC bl rows := fun b mb => by
        rw [← ebs]
        exact List.mem_map_of_mem mb
      refine ⟨.ref fo, rfl, fo, rfl, ⟨_, SqL.of efo⟩, fun D nD => ?_⟩
      refine lc_list (K := K) (a := fo) (xs := bs.map fun b => V.ref b.1) (fun m J2 => ∃ xs : List Tp, J2 D = some (.lst (xs.map fun b => V.ref b.1)) ∧ Same J J2 ∧ Tps J2 xs ∧ xs.length ≤ m ∧ xs.map (fun b => b.2) = ((bs.take m).map fun b => b.2).map srt) ?_ ?_ ?_ ?_
      · exact ⟨[], upd_same, same_upd nD, nofun, Nat.le_refl _, rfl⟩
      · rintro m J2 _ ⟨_, _, s, _⟩
        exact SqL.of (s _ _ efo)
      · rintro m x J2 hx ⟨xs, eD, sJ2, tpx, xl, ex⟩
        rw [List.getElem?_map] at hx
        obtain ⟨b, hb1, rfl⟩ := Option.map_eq_some_iff.mp hx
        have mb := List.mem_of_getElem? hb1
        have mlt : m < bs.length := (List.getElem?_eq_some_iff.mp hb1).1
        obtain ⟨cc, cn⟩ := cuts_sound tx hb (mcs b mb)
        have cl := cc.len tx
        have cl2 := (srt_perm cn).length_eq
        refine ⟨rfl, lc_yes ?_⟩
        refine ⟨.ref b.1, rfl, b.1, b.2, rfl, SqT.of (sJ2 _ _ (tps b mb)), by omega, fun ys p1 pm so np1 => ?_⟩
        have ey : ys = srt b.2 := srt_of cn pm so
        have sp1 := same_upd (o := .lst (ys.map V.str)) np1
        refine ⟨p1, _, rfl, .inl ⟨SqL.of upd_same, fun p2 np2 => ?_⟩⟩
        have sp2 := same_upd (o := .tup (ys.map V.str)) np2
        have s24 := sp1.trans sp2
        refine ⟨_, s24 _ _ eD, small1000 (by rw [List.length_map]; omega), xs ++ [(p2, ys)], ?_, same_put (sJ2.trans s24) nD, ?_, ?_, ?_⟩
        · rw [upd_same, List.map_append]
          rfl
        · refine Tps.app ((tpx.more s24).put (s24 _ _ eD)) fun b' m' => ?_
          rw [List.mem_singleton.mp m', upd_ne]
          · exact upd_same
          · exact (ne_of_none (sp1 _ _ eD) np2).symm
        · rw [List.length_append]
          exact Nat.succ_le_succ xl
        · rw [List.take_add_one, hb1, List.map_append, List.map_append, List.map_append, ex, ey]
          rfl
      rintro J2 ⟨xs, eD, sJ2, tpx, xl, ex⟩
      rw [List.length_map] at xl
      rw [List.length_map, List.take_length, ebs] at ex
      obtain ⟨tl0, etl⟩ := allC_head bl rows
      obtain ⟨a0, xr, exs⟩ : ∃ a0 xr, xs = (a0, []) :: xr := by
        rw [etl, List.map_cons, srt_eq (l := []) (ys := []) (.refl _) .nil] at ex
        cases xs with
        | nil => cases ex
        | cons b xr =>
          rw [List.map_cons] at ex
          obtain ⟨b1, b2⟩ := b
          have := (List.cons.inj ex).1
          dsimp only at this
          exact ⟨b1, xr, by rw [this]⟩
      subst exs
      refine ⟨D, a0, xr, rfl, SqL.of eD, fun b m => SqT.of (tpx b m), by omega, fun p np => ?_⟩
      have pm := List.mergeSort_perm ((a0, []) :: xr : List Tp) (PySem.W.dataLe false tpD)
      have sp := same_upd (o := .lst (((((a0, []) :: xr : List Tp).mergeSort (PySem.W.dataLe false tpD))).map fun b => V.ref b.1)) np
      have sAll : Same H _ := ((sH2.trans sJ).trans sJ2).trans sp
      refine q _ p _ sAll (((sH2.trans sJ).trans sJ2).free np) upd_same (fun b m => sp _ _ (tpx b (pm.subset m))) (fun b m => ?_) (fun cs hcs => ?_) ?_
      · have : b.2 ∈ (allC bl rows).map srt := by
          rw [← ex]
          exact List.mem_map_of_mem (pm.subset m)
        obtain ⟨c, mc, ec⟩ := List.mem_map.mp this
        rw [← ec]
        exact (cuts_sound tx hb mc).1
      · obtain ⟨c, mc, ec⟩ := cuts_full tx hb hcs
        have : cs ∈ (((a0, []) :: xr : List Tp)).map fun b => b.2 := by
          rw [ex, ← ec]
          exact List.mem_map_of_mem mc
        obtain ⟨b, mb, eb⟩ := List.mem_map.mp this
        exact ⟨b, pm.symm.subset mb, eb⟩
      · rw [List.length_mergeSort]
        omega
end
end Cu

namespace Cu
open PySem PySem.Spec PyProof.Rows L2
/-! ### [out x for x in l if p x] where test and item may make new objects -/
section
variable {K : PySem.W.Frag} {α : Type} {l : List α} {enc out : α → V} {p : α → Bool} {a : Addr} {g : TG} {tt : L2.TT} {te : TE} {vs : List Nat} {σ : L2.St} {H1 : Hp} {D : Addr} {Qd : Hp → Prop}
theorem filtS_turn (hD : H1 D = none) (sm : l.length ≤ 1000) (hs : ∀ x ∈ l, ∀ J, Same H1 J → ∀ R : L2.St → Hp → Prop, (∀ σ2, wipe σ2 vs = wipe σ vs → (∀ Q, (∀ J', Same J J' → Q (p x) J') → tt σ2 J Q) → (∀ J', Same J J' → ∀ Q, (∀ J2, Same J' J2 → Q (out x) J2) → te σ2 J' Q) → R σ2 J) → g (enc x) (wipe σ vs) J R)
    (i : Nat) (v : V) (J : Hp) (hx : (l.map enc)[i]? = some v) (hp : J D = some (.lst (((l.take i).filter p).map out)) ∧ Same H1 J) :
    g v (wipe σ vs) J fun σ2 H2 => wipe σ2 vs = wipe σ vs ∧ tt σ2 H2 fun b H3 =>
      if b = true then te σ2 H3 fun y H4 => ∃ acc, H4 D = some (.lst acc) ∧ acc.length < sizeLine ∧ ((upd H4 D (.lst (acc ++ [y]))) D = some (.lst (((l.take (i + 1)).filter p).map out)) ∧ Same H1 (upd H4 D (.lst (acc ++ [y])))) else (H3 D = some (.lst (((l.take (i + 1)).filter p).map out)) ∧ Same H1 H3) := by
  obtain ⟨eD, s2⟩ := hp
  rw [List.getElem?_map] at hx
  obtain ⟨x, hx1, rfl⟩ := Option.map_eq_some_iff.mp hx
  have mx := List.mem_of_getElem? hx1
  have tk : (l.take (i + 1)).filter p = (l.take i).filter p ++ (if p x = true then [x] else []) := by
    rw [List.take_add_one, hx1, List.filter_append]
    show _ ++ List.filter _ [x] = _
    rw [List.filter_cons, List.filter_nil]
  refine hs x mx J s2 _ fun σ2 h1 h2 h3 => ⟨h1, h2 _ fun J' sJ' => ?_⟩
  by_cases hb : p x = true
  · rw [if_pos hb]
    refine h3 J' sJ' _ fun J2 sJ2 => ⟨_, sJ2 _ _ (sJ' _ _ eD), ?_, ?_, same_put ((s2.trans sJ').trans sJ2) hD⟩
    · rw [List.length_map]
      have := List.length_filter_le p (l.take i)
      rw [List.length_take] at this
      exact small1000 (by omega)
    · rw [upd_same, tk, if_pos hb, List.map_append]
      rfl
  · rw [if_neg hb]
    refine ⟨?_, s2.trans sJ'⟩
    rw [tk, if_neg hb, List.append_nil]
    exact sJ' _ _ eD
theorem filtS_list (ea : H1 a = some (.lst (l.map enc))) (hD : H1 D = none) (sm : l.length ≤ 1000) (hs : ∀ x ∈ l, ∀ J, Same H1 J → ∀ R : L2.St → Hp → Prop, (∀ σ2, wipe σ2 vs = wipe σ vs → (∀ Q, (∀ J', Same J J' → Q (p x) J') → tt σ2 J Q) → (∀ J', Same J J' → ∀ Q, (∀ J2, Same J' J2 → Q (out x) J2) → te σ2 J' Q) → R σ2 J) → g (enc x) (wipe σ vs) J R)
    (hd : ∀ J, J D = some (.lst ((l.filter p).map out)) → Same H1 J → Qd J) :
    ∃ W : Nat → Nat → Hp → Prop, (∃ m, W 0 m (upd H1 D (.lst []))) ∧ ∀ i m H, W i m H →
      ((L2.Itl K a).stop i H ∧ Qd H) ∨ ((L2.Itl K a).go i H ∧ ∃ Nx : Hp → Prop, (∀ H', Nx H' → ∃ m', m' < m ∧ W (i + 1) m' H') ∧ ∀ x H', (L2.Itl K a).yld i H x H' → g x (wipe σ vs) H' fun σ2 H2 => wipe σ2 vs = wipe σ vs ∧ tt σ2 H2 fun b H3 =>
        if b = true then te σ2 H3 fun y H4 => ∃ acc, H4 D = some (.lst acc) ∧ acc.length < sizeLine ∧ Nx (upd H4 D (.lst (acc ++ [y]))) else Nx H3) := by
  refine lc_list (K := K) (a := a) (xs := l.map enc) (fun i J => J D = some (.lst (((l.take i).filter p).map out)) ∧ Same H1 J) ⟨upd_same, same_upd hD⟩ (fun i J _ h => SqL.of (h.2 _ _ ea)) (fun i x J hx h => filtS_turn hD sm hs i x J hx h) fun J h => ?_
  have h1 := h.1
  rw [List.length_map, List.take_length] at h1
  exact hd J h1 h.2
end
theorem strs_vs : ∀ {ys : List V}, (∀ y ∈ ys, ∃ z, y = .str z) → ∃ zs : List Str, ys = zs.map V.str
  | [], _ => ⟨[], rfl⟩
  | y :: ys, h => by
    obtain ⟨z, rfl⟩ := h y List.mem_cons_self
    obtain ⟨zs, rfl⟩ := strs_vs (ys := ys) fun y m => h y (List.mem_cons_of_mem _ m)
    exact ⟨z :: zs, rfl⟩
abbrev sPs : Stmt := topS 25
abbrev nPs : List Str := ["_law_heap_here", "_law_documents", "_law_name", "_law_touched", "_law_found", "_law_document"]
theorem scPs : FnScope nPs ["_law_heap_here"] (defScope sPs) := ⟨rfl, rfl, rfl, by decide +kernel, rfl, by decide +kernel, by decide +kernel⟩
section
variable {P : Program} {w : World} {K : PySem.W.Frag} {mg : Str → Option Value} {base : Heap}
def spPs : Sp := fun vs H Q _ => ∃ (t : Addr) (rows : List Row) (zs : List Str), vs = [.ref t] ∧ HeapIn H t rows ∧ rows.length ≤ 6 ∧ Texts rows zs ∧
  ∀ H' p (ps : List Addr) (xs : List Prs), Same H H' → H p = none → H' p = some (.lst (ps.map V.ref)) → PrsAt (fun _ => none) H' ps xs → (∀ x ∈ xs, (x.1 = "undo" ∨ x.1 = "redo") ∧ ∃ d, x.2 = .str d) → ps.length ≤ 200 → Q (.ref p) H'
theorem ok_ps {f : Addr} {fd : FuncData} {k : Nat} (F : Fun K "_law_presses" "_law_presses" sPs f fd) (T : Bl mg) : FnOk P w K mg base CX0 (k + 1) f fd ["_law_heap_here"] spPs := by
  refine F.ok scPs (fun vs H Q E h => ?_) (fun cdv A outer s H vs Q E hr h => ?_)
  · obtain ⟨t, rows, zs, rfl, _⟩ := h
    rfl
  · obtain ⟨t, rows, zs, rfl, hin, rl, tx, q⟩ := h
    refine ⟨_, (pss_cons (ps_set (i := 1) scPs.nd rfl (.inl rfl) (pe_lst pa_nil))
  (pss_cons (ps_for PassesOwn.never rfl (pi_tup (pv 0)) (pg_tup rfl (pgs_cons (pg_name (i := 2) scPs.nd rfl (.inl rfl)) (pgs_cons (pg_name (i := 3) scPs.nd rfl (.inl rfl)) pgs_nil)))
  (pss_one (ps_set (i := 1) scPs.nd rfl (.inl rfl) (pe_op op_cat (pv 1) (pe_callTy call_list_of (by rfl) T.list (by decide +kernel) (pa_cons (pv 3) pa_nil))))))
  (pss_cons (ps_set (i := 4) scPs.nd rfl (.inl rfl) (pe_callB (call_sortX rfl) (by rfl) T.sorted (by decide +kernel) (pa_cons (pe_callTy (call_setX rfl) (by rfl) T.set (by decide +kernel) (pa_cons (pv 1) pa_nil)) pa_nil)))
  (pss_one (ps_ret (pe_op op_cat (pe_lc (own := [("_law_document", 5)]) (g := gName 5) (tt := tYes) rfl scPs.nd (pi_list (pv 4)) (blkOk_by (own := [("_law_document", 5)]) (N := nPs) (sc := defScope sPs) (by decide +kernel)) (fun _ _ _ _ _ => (pg_name (i := 5) scPs.nd rfl (.inl rfl))) (fun _ _ _ _ _ => pts_nil) (fun _ _ _ _ _ => (pe_tup (pa_cons pe_str (pa_cons (pv 5) pa_nil))))) (pe_lc (own := [("_law_document", 5)]) (g := gName 5) (tt := tYes) rfl scPs.nd (pi_list (pv 4)) (blkOk_by (own := [("_law_document", 5)]) (N := nPs) (sc := defScope sPs) (by decide +kernel)) (fun _ _ _ _ _ => (pg_name (i := 5) scPs.nd rfl (.inl rfl))) (fun _ _ _ _ _ => pts_nil) (fun _ _ _ _ _ => (pe_tup (pa_cons pe_str (pa_cons (pv 5) pa_nil))))))))))), ?_⟩
    refine ⟨by show 0 ≤ sizeLine; decide, fun f0 nf0 => ?_⟩
    have s0 := same_upd (o := .lst []) nf0
    refine ⟨.ref t, rfl, t, rfl, ⟨_, SqT.of (s0 _ _ hin.at_)⟩, ?_⟩
    refine for_tup (K := K) (a := t) (xs := rows.map fun r => V.ref r.1) (fun i σ J => ∃ y2 y3 y4 y5 fo, ∃ ds : List Str, σ = [some (.ref t), some (.ref fo), y2, y3, y4, y5] ∧ Same H J ∧ J fo = some (.lst (ds.map V.str)) ∧ ds.length ≤ 8 * i) ?_ ?_ ?_ ?_
    · exact ⟨_, _, _, _, f0, [], rfl, s0, upd_same, Nat.le_refl _⟩
    · rintro i σ J _ ⟨_, _, _, _, _, _, _, sJ, _⟩
      exact SqT.of (sJ _ _ hin.at_)
    · rintro i x σ J hx ⟨y2, y3, y4, y5, fo, ds, rfl, sJ, efo, dl⟩
      rw [List.getElem?_map] at hx
      obtain ⟨r, hr1, rfl⟩ := Option.map_eq_some_iff.mp hx
      have mr := List.mem_of_getElem? hr1
      have ilt : i < rows.length := (List.getElem?_eq_some_iff.mp hr1).1
      have few := hin.few r mr
      obtain ⟨es, ees⟩ := strs_vs (tx_of tx mr).ds
      refine ⟨r.1, _, rfl, SqT.of (sJ _ _ (hin.row r mr)), rfl, _, _, rfl, _, _, rfl, rfl, ?_⟩
      refine ⟨.ref fo, rfl, .ref r.2.2.1, rfl, r.2.2.1, _, rfl, .inr (SqT.of (sJ _ _ (hin.doc r mr))), fun l1 nl1 => ?_⟩
      have sl1 := same_upd (o := .lst r.2.2.2) nl1
      refine ⟨fo, l1, _, _, rfl, rfl, sl1 _ _ efo, upd_same, Nat.le_trans (show _ ≤ 1000 by rw [List.length_map]; omega) (by decide), fun p np => ?_⟩
      have sp := same_upd (o := .lst (ds.map V.str ++ r.2.2.2)) np
      refine ⟨_, _, _, _, p, ds ++ es, rfl, (sJ.trans sl1).trans sp, ?_, ?_⟩
      · rw [upd_same, List.map_append, ees]
      · rw [ees, List.length_map] at few
        rw [List.length_append]
        omega
    · rintro σ J ⟨y2, y3, y4, y5, fo, ds, rfl, sJ, efo, dl⟩
      rw [List.length_map] at dl
      refine ⟨.ref fo, rfl, fo, ds, rfl, .inl (SqL.of efo), by omega, fun s1 n1 ns1 _ _ => ?_⟩
      refine ⟨s1, _, _, rfl, upd_same, fun ks knd kin => ?_, fun ys p ynd _ ymem _ np => ?_⟩
      · have := nodup_len knd fun y my => of_decide_eq_true (kin y my)
        omega
      have yl : ys.length ≤ 48 := by
        have := nodup_len ynd fun y my => of_decide_eq_true ((ymem y).mp my)
        omega
      have s2 := (same_upd (o := SetXO w s1 (fun k => decide (k ∈ ds)) n1) ns1).trans (same_upd (o := .lst (ys.map V.str)) np)
      have ep : (upd (upd J s1 (SetXO w s1 (fun k => decide (k ∈ ds)) n1)) p (.lst (ys.map V.str))) p = _ := upd_same
      refine ⟨.ref p, rfl, p, rfl, ⟨_, SqL.of ep⟩, fun E1 nE1 => ?_⟩
      refine make_list (l := ys) (enc := V.str) (mk := fun d => ("undo", .str d)) ep nE1 (by omega) (fun d md J' sJ' R h => h _ rfl fun Q hq => ?_) fun J3 psA eE1 sJ3 pA => ?_
      · exact ⟨_, rfl, by show 2 ≤ sizeLine; decide, hq⟩
      have ep3 := sJ3 _ _ ep
      refine ⟨.ref p, rfl, p, rfl, ⟨_, SqL.of ep3⟩, fun E2 nE2 => ?_⟩
      refine make_list (l := ys) (enc := V.str) (mk := fun d => ("redo", .str d)) ep3 nE2 (by omega) (fun d md J' sJ' R h => h _ rfl fun Q hq => ?_) fun J4 psB eE2 sJ4 pB => ?_
      · exact ⟨_, rfl, by show 2 ≤ sizeLine; decide, hq⟩
      have lA := Paired.len pA
      have lB := Paired.len pB
      rw [List.length_map] at lA lB
      refine ⟨E1, E2, psA.map V.ref, psB.map V.ref, rfl, rfl, sJ4 _ _ eE1, eE2, Nat.le_trans (show _ ≤ 1000 by rw [List.length_map, List.length_map]; omega) (by decide), fun pr npr => ?_⟩
      have spr := same_upd (o := .lst (psA.map V.ref ++ psB.map V.ref)) npr
      have sA := ((sJ.trans s2).trans sJ3).trans sJ4
      refine q _ pr (psA ++ psB) (ys.map (fun d => (("undo", .str d) : Prs)) ++ ys.map fun d => (("redo", .str d) : Prs)) (sA.trans spr) (sA.free npr) ?_ ?_ (fun x mx => ?_) ?_
      · rw [upd_same, List.map_append]
      · exact Paired.app (Paired.mapP pA fun a x h => ⟨rfl, spr _ _ (sJ4 _ _ h.2)⟩) (Paired.mapP pB fun a x h => ⟨rfl, spr _ _ h.2⟩)
      · rcases List.mem_append.mp mx with mx | mx
        · obtain ⟨d, _, rfl⟩ := List.mem_map.mp mx
          exact ⟨.inl rfl, d, rfl⟩
        · obtain ⟨d, _, rfl⟩ := List.mem_map.mp mx
          exact ⟨.inr rfl, d, rfl⟩
      · rw [List.length_append]
        omega
end
end Cu

namespace Cu
open PySem PySem.Spec PyProof.Rows L2
theorem _root_.L2.Room.units65 {k : Nat} {A : Around} (r : Room k A) : A.units + 65 < cLine := by have := r.un; omega
/-! ### what is left of a cut -/
theorem und_after {rows : List Row} {zs cs ns : List Str} {z : Str} (tx : Texts rows zs) (h : CutS rows zs cs) (mem : ∀ y, y ∈ ns ↔ y ∈ cs ∧ Le rows z y) : CutS rows zs (cs.filter fun y => !decide (y ∈ ns)) := by
  refine ⟨fun y my => h.z y (List.mem_filter.mp my).1, fun a b mb le => ?_, h.a.sublist List.filter_sublist⟩
  obtain ⟨m1, m2⟩ := List.mem_filter.mp mb
  rw [Bool.not_eq_true', decide_eq_false_iff_not] at m2
  refine List.mem_filter.mpr ⟨h.c a b m1 le, ?_⟩
  rw [Bool.not_eq_true', decide_eq_false_iff_not]
  intro ma
  exact m2 ((mem b).mpr ⟨m1, ((mem a).mp ma).2.trans tx le⟩)
theorem dp_strl {K : PySem.W.Frag} {H : Hp} : ∀ (zs : List Str), DpAll K H (zs.map V.str) (zs.map PyData.str)
  | [] => .nil
  | z :: zs => .cons (.str z) (dp_strl zs)
theorem tps_dp {K : PySem.W.Frag} {H : Hp} : ∀ {bs : List Tp}, Tps H bs → DpAll K H (bs.map fun b => V.ref b.1) (bs.map tpD)
  | [], _ => .nil
  | b :: bs, h => .cons (.tup (SqT.of (h b List.mem_cons_self)) (dp_strl b.2)) (tps_dp fun b m => h b (List.mem_cons_of_mem _ m))
theorem tps_shaped {bs : List Tp} (as : ∀ b ∈ bs, ∀ z ∈ b.2, Asc z) : SeqAt.shaped (.list (bs.map tpD)) = true := by
  refine shaped_of (k := 3) (lay_list (k := 2) fun d md => ?_)
  obtain ⟨b, mb, rfl⟩ := List.mem_map.mp md
  refine lay_tup (k := 1) fun d md => ?_
  obtain ⟨z, mz, rfl⟩ := List.mem_map.mp md
  exact lay_str (as b mb z mz)
theorem eqv_tps (xs ys : List Str) : PyData.eqv (.tuple (xs.map PyData.str)) (.tuple (ys.map PyData.str)) = decide (xs = ys) := by
  rw [PyData.eqv]
  exact eqvAll_strs xs ys
theorem asc_zs {rows : List Row} {zs : List Str} (tx : Texts rows zs) {z : Str} (m : z ∈ zs) : Asc z := by
  obtain ⟨w, e, h, _⟩ := pool_nm (tx.inn z m)
  cases e
  exact h
abbrev sUR : Stmt := topS 26
abbrev nUR : List Str := ["_law_cuts", "_law_chain", "_law_cut", "_law_heap_here", "_law_document", "_law_done", "_law_names", "_law_after", "_law_smaller", "_law_name", "_law_one"]
theorem scUR : FnScope nUR ["_law_cuts", "_law_chain", "_law_cut", "_law_heap_here", "_law_document"] (defScope sUR) := ⟨rfl, rfl, rfl, by decide +kernel, rfl, by decide +kernel, by decide +kernel⟩
abbrev scUR1 : Scope := { kind := .function, names := [(".0", .local), ("_law_one", .local), ("all", .globalImplicit), ("_law_cut", .cell), ("_law_done", .cell)], isGenerator := false, isCoroutine := false }
abbrev scUR2 : Scope := { kind := .function, names := [(".0", .local), ("_law_one", .local), ("all", .globalImplicit), ("_law_after", .cell)], isGenerator := false, isCoroutine := false }
section
variable {P : Program} {w : World} {K : PySem.W.Frag} {mg : Str → Option Value} {base : Heap}
def spRt (ps : List Addr) : Sp := fun vs H Q _ => ∃ (cl ch c t : Addr) (rows : List Row) (zs cs : List Str) (d : Str) (bs : List Tp), vs = [.ref cl, .ref ch, .ref c, .ref t, .str d] ∧ (∀ p ∈ ps, GxR.TabG H p) ∧ HeapIn H t rows ∧ rows.length ≤ 40 ∧ Texts rows zs ∧ H cl = some (.lst (bs.map fun b => V.ref b.1)) ∧ Tps H bs ∧ (∀ b ∈ bs, CutS rows zs b.2) ∧ (∀ cs, CutS rows zs cs → ∃ b ∈ bs, b.2 = cs) ∧ bs.length ≤ 64 ∧ H ch = some (.lst ((lsN rows d).map V.str)) ∧ H c = some (.tup (cs.map V.str)) ∧ CutS rows zs cs ∧
  ∀ H', Tbs ps H H' → Q (.bl true) H'
theorem ok_ur {f fU : Addr} {fd fdU : FuncData} {ps : List Addr} {k : Nat} (F : Fun K "_law_undo_right" "_law_undo_right" sUR f fd) (DUn : Df K mg "undo_set" sUn ["heap", "cut", "document"] fU fdU) (GUn : FnOk P w K mg base CX0 5 fU fdU ["heap", "cut", "document"] (spUn ps)) (T : Bl mg) :
    FnOk P w K mg base CX0 (k + 6) f fd ["_law_cuts", "_law_chain", "_law_cut", "_law_heap_here", "_law_document"] (spRt ps) := by
  refine F.ok scUR (fun vs H Q E h => ?_) (fun cdv A outer s H vs Q E hr h => ?_)
  · obtain ⟨cl, ch, c, t, rows, zs, cs, d, bs, rfl, _⟩ := h
    rfl
  · obtain ⟨cl, ch, c, t, rows, zs, cs, d, bs, rfl, tt, hin, rl, tx, ecl, tps, sound, full, bl64, ech, ec, cut, q⟩ := h
    refine ⟨_, (pss_cons (ps_set (i := 5) scUR.nd rfl (.inr rfl) (pe_lc (own := [("_law_name", 9)]) (g := gName 9) rfl scUR.nd (pi_list (pv 1)) (blkOk_by (own := [("_law_name", 9)]) (N := nUR) (sc := defScope sUR) (by decide +kernel)) (fun _ _ _ _ _ => (pg_name (i := 9) scUR.nd rfl (.inl rfl))) (fun _ _ _ _ _ => (pts_one (pt_cmpR (show OpR _ (compareOp .In) (rIn K false) from op_in_seq) (pv 9) (pv 2) (by rfl)))) (fun _ _ _ _ _ => (pv 9))))
  (pss_cons (ps_if (pt_cmpR (op_eqD hr.units) (pv 5) (pe_lst pa_nil) (nomark _))
  (pss_one (ps_ret pe_bl))
  pss_nil)
  (pss_cons (ps_set (i := 6) scUR.nd rfl (.inr rfl) (pe_call GUn (hr.mono (by omega)) (by rfl) DUn.g DUn.F.kp DUn.b .nil pass0 (pa_cons (pv 3) (pa_cons (pv 2) (pa_cons (pv 4) pa_nil)))))
  (pss_cons (ps_set (i := 7) scUR.nd rfl (.inr rfl) (pe_callTy call_tuple_of (by rfl) T.tuple (by decide +kernel) (pa_cons (pe_lc (own := [("_law_name", 9)]) (g := gName 9) rfl scUR.nd (pi_tup (pv 2)) (blkOk_by (own := [("_law_name", 9)]) (N := nUR) (sc := defScope sUR) (by decide +kernel)) (fun _ _ _ _ _ => (pg_name (i := 9) scUR.nd rfl (.inl rfl))) (fun _ _ _ _ _ => (pts_one (pt_cmpR (show OpR _ (compareOp .NotIn) (rIn K true) from op_notIn_seq) (pv 9) (pv 6) (by rfl)))) (fun _ _ _ _ _ => (pv 9))) pa_nil)))
  (pss_cons (ps_setLc (i := 8) (own := [("_law_one", 10)]) (g := gName 10) (tt := tAnd (tTest (tOp (rIn K true) (tOp (rIxL K) (tVar 5) (tUn (rU fun i => .int (-i)) (tC (.int 1)))) (tVar 10))) (tB (tCB (rAll K) (tCons (tLc (iTup K (tVar 10)) (gName 9) tYes (tOp (rIn K false) (tVar 9) (tVar 2)) [9]) tNil)))) rfl scUR.nd rfl rfl (sw_true rfl rfl rfl (by decide +kernel)) (pi_list (pv 0)) (blkOk_by (own := [("_law_one", 10)]) (N := nUR) (sc := defScope sUR) (by decide +kernel)) (fun _ _ _ _ _ => (pg_name (i := 10) scUR.nd rfl (.inl rfl))) (fun _ _ _ _ _ => (pts_one (PW.pt (pw_and (pt_cmpR (show OpR _ (compareOp .NotIn) (rIn K true) from op_notIn_seq) (pe_ix (show IxR _ (rIxL K) from ix_list) (pv 5) (pe_un un_neg pe_int) (fun _ _ => rfl)) (pv 10) (by rfl)) (pw_and1 (pt_val ?e1)))))) (fun _ _ _ _ _ => (pv 10)))
  (pss_cons (ps_if (PW.pt (pw_or (pt_cmpR (op_notInD hr.units65) (pv 7) (pv 8) (by rfl)) (pw_or (pt_not (pt_val (pe_callB (cr_all rfl) (by rfl) T.all (by decide +kernel) (pa_cons (pe_lc (own := [("_law_name", 9)]) (g := gName 9) (tt := tYes) rfl scUR.nd (pi_tup (pv 6)) (blkOk_by (own := [("_law_name", 9)]) (N := nUR) (sc := defScope sUR) (by decide +kernel)) (fun _ _ _ _ _ => (pg_name (i := 9) scUR.nd rfl (.inl rfl))) (fun _ _ _ _ _ => pts_nil) (fun _ _ _ _ _ => (pe_cmpR (show OpR _ (compareOp .In) (rIn K false) from op_in_seq) (pv 9) (pv 2) (by rfl)))) pa_nil)))) (pw_or1 (pt_cmpR op_ne (pe_callB call_lenX (by rfl) T.len PySem.boot_len (pa_cons (pe_callTy (call_setX rfl) (by rfl) T.set (by decide +kernel) (pa_cons (pv 6) pa_nil)) pa_nil)) (pe_callB call_len_seq (by rfl) T.len PySem.boot_len (pa_cons (pv 6) pa_nil)) (nomark _))))))
  (pss_one (ps_ret pe_bl))
  pss_nil)
  (pss_one (ps_ret (pe_callB (cr_all rfl) (by rfl) T.all (by decide +kernel) (pa_cons (pe_lc (own := [("_law_one", 10)]) (g := gName 10) (tt := tYes) (te := tCB (rAll K) (tCons (tLc (iTup K (tVar 10)) (gName 9) tYes (tOp (rIn K false) (tVar 9) (tVar 7)) [9]) tNil)) rfl scUR.nd (pi_list (pv 8)) (blkOk_by (own := [("_law_one", 10)]) (N := nUR) (sc := defScope sUR) (by decide +kernel)) (fun _ _ _ _ _ => (pg_name (i := 10) scUR.nd rfl (.inl rfl))) (fun _ _ _ _ _ => pts_nil) (fun _ _ _ _ _ => ?e2)) pa_nil)))))))))), ?_⟩
    case e1 => exact (pe_callB (show CallR _ (.builtin "all") (rAll K) from cr_all rfl) (by rfl) T.all (by decide +kernel) (pa_cons (pe_lc (own := [("_law_name", 9)]) (g := gName 9) (tt := tYes) rfl scUR.nd (pi_tup (pv 10)) (blkOk_by (own := [("_law_name", 9)]) (N := nUR) (sc := scUR1) (by decide +kernel)) (fun _ _ _ _ _ => (pg_name (i := 9) scUR.nd rfl (.inl rfl))) (fun _ _ _ _ _ => pts_nil) (fun _ _ _ _ _ => (pe_cmpR (show OpR _ (compareOp .In) (rIn K false) from op_in_seq) (pv 9) (pv 2) (by rfl)))) pa_nil))
    case e2 => exact (pe_callB (show CallR _ (.builtin "all") (rAll K) from cr_all rfl) (by rfl) T.all (by decide +kernel) (pa_cons (pe_lc (own := [("_law_name", 9)]) (g := gName 9) (tt := tYes) rfl scUR.nd (pi_tup (pv 10)) (blkOk_by (own := [("_law_name", 9)]) (N := nUR) (sc := scUR2) (by decide +kernel)) (fun _ _ _ _ _ => (pg_name (i := 9) scUR.nd rfl (.inl rfl))) (fun _ _ _ _ _ => pts_nil) (fun _ _ _ _ _ => (pe_cmpR (show OpR _ (compareOp .In) (rIn K false) from op_in_seq) (pv 9) (pv 7) (by rfl)))) pa_nil))
    have ll := ls_len (rows := rows) d
    have asz : ∀ z ∈ zs, Asc z := fun z m => asc_zs tx m
    refine ⟨.ref ch, rfl, ch, rfl, ⟨_, SqL.of ech⟩, fun D1 nD1 => ?_⟩
    refine filt_list (l := lsN rows d) (enc := V.str) (out := V.str) (p := fun y => decide (y ∈ cs)) ech nD1 (by omega) (fun y my J sJ R h => ?_) fun J1 eD1 sJ1 => ?_
    · refine h _ rfl (fun Q hq => ?_) (fun Q hq => ⟨_, rfl, hq⟩)
      refine ⟨_, rfl, .ref c, rfl, c, _, rfl, .inr (SqT.of (sJ _ _ ec)), rfl, flat_strs cs, _, rfl, ?_⟩
      show Q (inV (.str y) (cs.map V.str)) J
      rw [in_dec]
      exact hq
    have k1 : Tbs ps H J1 := .of_same tt sJ1
    have dnz : ∀ y ∈ (lsN rows d).filter (fun y => decide (y ∈ cs)), y ∈ zs := fun y my => ls_zs tx (List.mem_filter.mp my).1
    have dnc : ∀ y ∈ (lsN rows d).filter (fun y => decide (y ∈ cs)), y ∈ cs := fun y my => of_decide_eq_true (List.mem_filter.mp my).2
    generalize hdn : (lsN rows d).filter (fun y => decide (y ∈ cs)) = dn at eD1 dnz dnc
    refine ⟨.ref D1, rfl, by show 0 ≤ sizeLine; decide, fun e0 ne0 => ?_⟩
    have se0 := same_upd (o := .lst []) ne0
    refine ⟨.list (dn.map PyData.str), .list (([] : List Str).map PyData.str), dp_strs (SqL.of (se0 _ _ eD1)), dp_strs (SqL.of upd_same), shaped_strs fun z m => asz z (dnz z m), shaped_strs (zs := []) nofun, _, rfl, ?_⟩
    rw [eqv_strs]
    have k2 := k1.same_ se0
    have eD1' := se0 _ _ eD1
    generalize upd J1 e0 (.lst []) = J2 at k2 eD1' ⊢
    by_cases hd0 : dn = []
    · refine iffT (decide_eq_true hd0) ?_
      exact q _ k2
    refine iffF (decide_eq_false hd0) ?_
    obtain ⟨dn', z, rfl⟩ : ∃ dn' z, dn = dn' ++ [z] := ⟨dn.dropLast, dn.getLast hd0, (List.dropLast_concat_getLast hd0).symm⟩
    have mzc : z ∈ cs := dnc z (by simp)
    have mzz : z ∈ zs := dnz z (by simp)
    -- the program's word
    refine ⟨.ref t, rfl, .ref c, rfl, .str d, rfl, t, c, rows, zs, cs, d, z, dn', rfl, k2.tab, k2.heap tt hin, rl, tx, k2.tup tt ec, hdn, fun J3 pn ns k3' npn epn nnd mem => ?_⟩
    have k3 : Tbs ps H J3 := k2.trans k3'
    have eD3 := k3'.lst k2.tab eD1'
    have ec3 := k3.tup tt ec
    have cl40 : cs.length ≤ 40 := Nat.le_trans (cut.len tx) rl
    have nl40 : ns.length ≤ 40 := Nat.le_trans (nodup_len nnd fun y my => ((mem y).mp my).1) cl40
    refine ⟨.ref c, rfl, c, rfl, ⟨_, SqT.of ec3⟩, fun D2 nD2 => ?_⟩
    refine filt_tup (l := cs) (enc := V.str) (out := V.str) (p := fun y => !decide (y ∈ ns)) ec3 nD2 (by omega) (fun y my J sJ R h => ?_) fun J4 eD4 sJ4 => ?_
    · refine h _ rfl (fun Q hq => ?_) (fun Q hq => ⟨_, rfl, hq⟩)
      refine ⟨_, rfl, .ref pn, rfl, pn, _, rfl, .inr (SqT.of (sJ _ _ epn)), rfl, flat_strs ns, _, rfl, ?_⟩
      show Q (!inV (.str y) (ns.map V.str)) J
      rw [in_dec]
      exact hq
    have af := und_after tx cut mem
    have zaf : z ∉ cs.filter fun y => !decide (y ∈ ns) := fun m => by
      have := (List.mem_filter.mp m).2
      rw [Bool.not_eq_true', decide_eq_false_iff_not] at this
      exact this ((mem z).mpr ⟨mzc, Le.refl tx mzz⟩)
    have afc : ∀ y ∈ cs.filter (fun y => !decide (y ∈ ns)), y ∈ cs := fun y m => (List.mem_filter.mp m).1
    have afn : ∀ y, y ∈ cs → y ∉ ns → y ∈ cs.filter fun y => !decide (y ∈ ns) := fun y m n => List.mem_filter.mpr ⟨m, by rw [Bool.not_eq_true', decide_eq_false_iff_not]; exact n⟩
    generalize hafe : cs.filter (fun y => !decide (y ∈ ns)) = af0 at eD4 af zaf afc afn
    refine ⟨D2, _, rfl, .inl ⟨SqL.of eD4, fun pa npa => ?_⟩⟩
    have spa := same_upd (o := .tup (af0.map V.str)) npa
    have epa : (upd J4 pa (.tup (af0.map V.str))) pa = some (.tup (af0.map V.str)) := upd_same
    have k5 : Tbs ps H _ := (k3.same_ sJ4).same_ spa
    have s35 := sJ4.trans spa
    have eD5 := s35 _ _ eD3
    have epn5 := s35 _ _ epn
    generalize upd J4 pa (.tup (af0.map V.str)) = J5 at epa k5 s35 eD5 epn5 ⊢
    have ec5 := k5.tup tt ec
    have ecl5 := k5.lst tt ecl
    have tps5 : Tps J5 bs := fun b m => k5.tup tt (tps b m)
    have b40 : ∀ b ∈ bs, b.2.length ≤ 40 := fun b m => Nat.le_trans ((sound b m).len tx) rl
    -- the smaller cuts
    refine ⟨.ref cl, rfl, cl, rfl, ⟨_, SqL.of ecl5⟩, fun D3 nD3 => ?_⟩
    refine filtS_list (l := bs) (enc := fun b => V.ref b.1) (out := fun b => V.ref b.1) (p := fun b => !decide (z ∈ b.2) && b.2.all fun y => decide (y ∈ cs)) ecl5 nD3 (by omega) (fun b mb J sJ R h => ?_) fun J6 eD6 sJ6 => ?_
    · refine h _ rfl (fun Q hq => ?_) (fun J' _ Q hq => ⟨_, rfl, hq J' (Same.refl _)⟩)
      have eb := sJ _ _ (tps5 b mb)
      refine ⟨.ref D1, rfl, 1, rfl, D1, _, -1, .str z, rfl, rfl, SqL.of (sJ _ _ eD5), ?_, .ref b.1, rfl, b.1, _, rfl, .inr (SqT.of eb), rfl, flat_strs _, _, rfl, ?_⟩
      · rw [List.map_append]
        exact at_end _ _
      show if (!inV (.str z) (b.2.map V.str)) = true then _ else _
      rw [in_dec]
      by_cases mz : z ∈ b.2
      · refine iffF (by rw [decide_eq_true mz]; rfl) ?_
        have := hq J (Same.refl _)
        rw [decide_eq_true mz] at this
        exact this
      · refine iffT (by rw [decide_eq_false mz]; rfl) ?_
        refine ⟨.ref b.1, rfl, b.1, rfl, ⟨_, SqT.of eb⟩, fun D8 nD8 => ?_⟩
        refine filt_tup (l := b.2) (enc := V.str) (out := fun y => V.bl (decide (y ∈ cs))) (p := fun _ => true) eb nD8 (Nat.le_trans (b40 b mb) (by decide)) (fun y my J8 sJ8 R h => ?_) fun J8 eD8 sJ8 => ?_
        · refine h _ rfl (fun Q hq => hq) (fun Q hq => ?_)
          refine ⟨_, rfl, .ref c, rfl, c, _, rfl, .inr (SqT.of (sJ8 _ _ (sJ _ _ ec5))), rfl, flat_strs cs, ?_⟩
          show Q (.bl (inV (.str y) (cs.map V.str))) J8
          rw [in_dec]
          exact hq
        rw [List.filter_eq_self.mpr (fun _ _ => rfl)] at eD8
        refine ⟨D8, b.2.map fun y => decide (y ∈ cs), rfl, SqL.of (by rw [List.map_map]; exact eD8), _, rfl, ?_⟩
        have := hq J8 sJ8
        rw [decide_eq_false mz] at this
        rw [List.all_map]
        exact this
    have k6 : Tbs ps H J6 := k5.same_ sJ6
    have eD6' : J6 D3 = some (.lst ((bs.filter fun b => !decide (z ∈ b.2) && b.2.all fun y => decide (y ∈ cs)).map fun b => V.ref b.1)) := eD6
    have sm : ∀ b ∈ bs.filter (fun b => !decide (z ∈ b.2) && b.2.all fun y => decide (y ∈ cs)), b ∈ bs ∧ z ∉ b.2 ∧ ∀ y ∈ b.2, y ∈ cs := fun b m => by
      obtain ⟨m1, m2⟩ := List.mem_filter.mp m
      rw [Bool.and_eq_true, Bool.not_eq_true', decide_eq_false_iff_not, List.all_eq_true] at m2
      exact ⟨m1, m2.1, fun y my => of_decide_eq_true (m2.2 y my)⟩
    have hit : ∃ b ∈ bs.filter (fun b => !decide (z ∈ b.2) && b.2.all fun y => decide (y ∈ cs)), b.2 = af0 := by
      obtain ⟨b, mb, eb⟩ := full af0 af
      refine ⟨b, List.mem_filter.mpr ⟨mb, ?_⟩, eb⟩
      rw [Bool.and_eq_true, Bool.not_eq_true', decide_eq_false_iff_not, List.all_eq_true, eb]
      exact ⟨zaf, fun y my => decide_eq_true (afc y my)⟩
    have sml : (bs.filter fun b => !decide (z ∈ b.2) && b.2.all fun y => decide (y ∈ cs)).length ≤ 64 := Nat.le_trans (List.length_filter_le _ _) bl64
    generalize bs.filter (fun b => !decide (z ∈ b.2) && b.2.all fun y => decide (y ∈ cs)) = ms at eD6' sm hit sml
    have tpm : Tps J6 ms := fun b m => sJ6 _ _ (tps5 b (sm b m).1)
    have epa6 := sJ6 _ _ epa
    have epn6 := sJ6 _ _ epn5
    -- what is asked of them
    refine ⟨.ref pa, rfl, .ref D3, rfl, .tuple (af0.map PyData.str), ms.map tpD, .tup (SqT.of epa6) (dp_strl af0), .lst (SqL.of eD6') (tps_dp tpm), shaped_tup fun y my => asz y (af.z y my), tps_shaped fun b mb y my => asz y ((sound b (sm b mb).1).z y my), _, rfl, ?_⟩
    have any : ((ms.map tpD).any fun x => PyData.eqv x (.tuple (af0.map PyData.str))) = true := by
      obtain ⟨b, mb, eb⟩ := hit
      refine List.any_eq_true.mpr ⟨tpD b, List.mem_map_of_mem mb, ?_⟩
      unfold tpD
      rw [eqv_tps, eb]
      exact decide_eq_true rfl
    refine iffF (by rw [any]; rfl) ?_
    refine ⟨.ref pn, rfl, pn, rfl, ⟨_, SqT.of epn6⟩, fun D7 nD7 => ?_⟩
    have ec6 := k6.tup tt ec
    refine filt_tup (l := ns) (enc := V.str) (out := fun y => V.bl (decide (y ∈ cs))) (p := fun _ => true) epn6 nD7 (by omega) (fun y my J8 sJ8 R h => ?_) fun J7 eD7 sJ7 => ?_
    · refine h _ rfl (fun Q hq => hq) (fun Q hq => ?_)
      refine ⟨_, rfl, .ref c, rfl, c, _, rfl, .inr (SqT.of (sJ8 _ _ ec6)), rfl, flat_strs cs, ?_⟩
      show Q (.bl (inV (.str y) (cs.map V.str))) J8
      rw [in_dec]
      exact hq
    rw [List.filter_eq_self.mpr (fun _ _ => rfl)] at eD7
    refine ⟨D7, ns.map fun y => decide (y ∈ cs), rfl, SqL.of (by rw [List.map_map]; exact eD7), _, rfl, ?_⟩
    have alln : ((ns.map fun y => decide (y ∈ cs)).all id) = true := by
      rw [List.all_map, List.all_eq_true]
      exact fun y my => decide_eq_true ((mem y).mp my).1
    refine iffF (by rw [alln]; rfl) ?_
    have k7 : Tbs ps H J7 := k6.same_ sJ7
    have epn7 := sJ7 _ _ epn6
    refine ⟨.ref pn, rfl, pn, ns, rfl, .inr (SqT.of epn7), by omega, fun s1 n1 ns1 _ n1e => ⟨s1, _, _, rfl, upd_same, ?_⟩⟩
    have ss1 := same_upd (o := SetXO w s1 (fun k => decide (k ∈ ns)) n1) ns1
    refine ⟨.ref pn, rfl, pn, _, rfl, .inr (SqT.of (ss1 _ _ epn7)), rfl, _, rfl, ?_⟩
    refine iffF (by rw [List.length_map, n1e nnd]; exact ne_self _) ?_
    have k8 := k7.same_ ss1
    have eD8 := ss1 _ _ (sJ7 _ _ eD6')
    have tp8 := (tpm.more sJ7).more ss1
    have epa8 := ss1 _ _ (sJ7 _ _ epa6)
    -- each of them lies within
    refine ⟨.ref D3, rfl, D3, rfl, ⟨_, SqL.of eD8⟩, fun D9 nD9 => ?_⟩
    refine filtS_list (l := ms) (enc := fun b => V.ref b.1) (out := fun _ => V.bl true) (p := fun _ => true) eD8 nD9 (by omega) (fun b mb J sJ R h => ?_) fun J9 eD9 sJ9 => ?_
    · refine h _ rfl (fun Q hq => hq J (Same.refl _)) (fun J' sJ' Q hq => ?_)
      have eb := sJ' _ _ (sJ _ _ (tp8 b mb))
      obtain ⟨mbs, zb, bcs⟩ := sm b mb
      refine ⟨.ref b.1, rfl, b.1, rfl, ⟨_, SqT.of eb⟩, fun D8 nD8 => ?_⟩
      refine filt_tup (l := b.2) (enc := V.str) (out := fun y => V.bl (decide (y ∈ af0))) (p := fun _ => true) eb nD8 (Nat.le_trans (b40 b mbs) (by decide)) (fun y my J8 sJ8 R h => ?_) fun J8 eD8 sJ8 => ?_
      · refine h _ rfl (fun Q hq => hq) (fun Q hq => ?_)
        refine ⟨_, rfl, .ref pa, rfl, pa, _, rfl, .inr (SqT.of (sJ8 _ _ (sJ' _ _ (sJ _ _ epa8)))), rfl, flat_strs af0, ?_⟩
        show Q (.bl (inV (.str y) (af0.map V.str))) J8
        rw [in_dec]
        exact hq
      rw [List.filter_eq_self.mpr (fun _ _ => rfl)] at eD8
      refine ⟨D8, b.2.map fun y => decide (y ∈ af0), rfl, SqL.of (by rw [List.map_map]; exact eD8), ?_⟩
      have alb : ((b.2.map fun y => decide (y ∈ af0)).all id) = true := by
        rw [List.all_map, List.all_eq_true]
        intro y my
        refine decide_eq_true (afn y (bcs y my) fun mn => zb ?_)
        exact (sound b mbs).c z y my ((mem y).mp mn).2
      rw [alb]
      exact hq J8 sJ8
    rw [List.filter_eq_self.mpr (fun _ _ => rfl)] at eD9
    refine ⟨D9, ms.map fun _ => true, rfl, SqL.of (by rw [List.map_map]; exact eD9), ?_⟩
    have fin : ((ms.map fun _ => true).all id) = true := by
      rw [List.all_map, List.all_eq_true]
      exact fun _ _ => rfl
    rw [fin]
    exact q _ (k8.same_ sJ9)
end
end Cu

namespace Cu
open PySem PySem.Spec PyProof.Rows L2
/-! ### a cut with more -/
theorem red_nodup {rows : List Row} {zs cs ns : List Str} {z : Str} (h : CutS rows zs cs) (nn : ns.Nodup) (mem : ∀ y, y ∈ ns ↔ y ∉ cs ∧ Le rows y z) : (cs ++ ns).Nodup :=
  List.nodup_append.mpr ⟨pw_nodup h.a, nn, fun a ma b mb e => ((mem b).mp mb).1 (by rw [← e]; exact ma)⟩
theorem red_after {rows : List Row} {zs cs ns ys : List Str} {z : Str} (tx : Texts rows zs) (h : CutS rows zs cs) (mem : ∀ y, y ∈ ns ↔ y ∉ cs ∧ Le rows y z) (pm : ys.Perm (cs ++ ns)) (asc : ys.Pairwise LtS) : CutS rows zs ys := by
  refine ⟨fun y my => ?_, fun a b mb le => ?_, asc⟩
  · rcases List.mem_append.mp (pm.subset my) with m | m
    · exact h.z y m
    · exact (((mem y).mp m).2.mem tx).1
  · refine pm.symm.subset ?_
    rcases List.mem_append.mp (pm.subset mb) with m | m
    · exact List.mem_append_left _ (h.c a b m le)
    · by_cases ma : a ∈ cs
      · exact List.mem_append_left _ ma
      · exact List.mem_append_right _ ((mem a).mpr ⟨ma, le.trans tx ((mem b).mp m).2⟩)
abbrev sRR : Stmt := topS 27
abbrev nRR : List Str := ["_law_cuts", "_law_chain", "_law_cut", "_law_heap_here", "_law_document", "_law_left", "_law_names", "_law_after", "_law_larger", "_law_name", "_law_one"]
theorem scRR : FnScope nRR ["_law_cuts", "_law_chain", "_law_cut", "_law_heap_here", "_law_document"] (defScope sRR) := ⟨rfl, rfl, rfl, by decide +kernel, rfl, by decide +kernel, by decide +kernel⟩
abbrev scRR1 : Scope := { kind := .function, names := [(".0", .local), ("_law_one", .cell), ("all", .globalImplicit), ("_law_cut", .cell), ("_law_left", .cell)], isGenerator := false, isCoroutine := false }
abbrev scRR2 : Scope := { kind := .function, names := [(".0", .local), ("_law_one", .cell), ("all", .globalImplicit), ("_law_after", .cell)], isGenerator := false, isCoroutine := false }
section
variable {P : Program} {w : World} {K : PySem.W.Frag} {mg : Str → Option Value} {base : Heap}
theorem ok_rr {f fU : Addr} {fd fdU : FuncData} {ps : List Addr} {k : Nat} (F : Fun K "_law_redo_right" "_law_redo_right" sRR f fd) (DRd : Df K mg "redo_set" sRd ["heap", "cut", "document"] fU fdU) (GRd : FnOk P w K mg base CX0 5 fU fdU ["heap", "cut", "document"] (spRd ps)) (T : Bl mg) :
    FnOk P w K mg base CX0 (k + 6) f fd ["_law_cuts", "_law_chain", "_law_cut", "_law_heap_here", "_law_document"] (spRt ps) := by
  refine F.ok scRR (fun vs H Q E h => ?_) (fun cdv A outer s H vs Q E hr h => ?_)
  · obtain ⟨cl, ch, c, t, rows, zs, cs, d, bs, rfl, _⟩ := h
    rfl
  · obtain ⟨cl, ch, c, t, rows, zs, cs, d, bs, rfl, tt, hin, rl, tx, ecl, tps, sound, full, bl64, ech, ec, cut, q⟩ := h
    refine ⟨_, (pss_cons (ps_set (i := 5) scRR.nd rfl (.inr rfl) (pe_lc (own := [("_law_name", 9)]) (g := gName 9) rfl scRR.nd (pi_list (pv 1)) (blkOk_by (own := [("_law_name", 9)]) (N := nRR) (sc := defScope sRR) (by decide +kernel)) (fun _ _ _ _ _ => (pg_name (i := 9) scRR.nd rfl (.inl rfl))) (fun _ _ _ _ _ => (pts_one (pt_cmpR (show OpR _ (compareOp .NotIn) (rIn K true) from op_notIn_seq) (pv 9) (pv 2) (by rfl)))) (fun _ _ _ _ _ => (pv 9))))
  (pss_cons (ps_if (pt_cmpR (op_eqD hr.units) (pv 5) (pe_lst pa_nil) (nomark _))
  (pss_one (ps_ret pe_bl))
  pss_nil)
  (pss_cons (ps_set (i := 6) scRR.nd rfl (.inl rfl) (pe_call GRd (hr.mono (by omega)) (by rfl) DRd.g DRd.F.kp DRd.b .nil pass0 (pa_cons (pv 3) (pa_cons (pv 2) (pa_cons (pv 4) pa_nil)))))
  (pss_cons (ps_set (i := 7) scRR.nd rfl (.inr rfl) (pe_callTy call_tuple_of (by rfl) T.tuple (by decide +kernel) (pa_cons (pe_callB call_sortTu (by rfl) T.sorted (by decide +kernel) (pa_cons (pe_op op_catA (pv 2) (pv 6)) pa_nil)) pa_nil)))
  (pss_cons (ps_setLc (i := 8) (own := [("_law_one", 10)]) (g := gName 10) (tt := tAnd (tTest (tOp (rIn K false) (tOp (rIxL K) (tVar 5) (tC (.int 0))) (tVar 10))) (tB (tCB (rAll K) (tCons (tLc (iTup K (tVar 2)) (gName 9) tYes (tOp (rIn K false) (tVar 9) (tVar 10)) [9]) tNil)))) rfl scRR.nd rfl rfl (sw_true rfl rfl rfl (by decide +kernel)) (pi_list (pv 0)) (blkOk_by (own := [("_law_one", 10)]) (N := nRR) (sc := defScope sRR) (by decide +kernel)) (fun _ _ _ _ _ => (pg_name (i := 10) scRR.nd rfl (.inr rfl))) (fun _ _ _ _ _ => (pts_one (PW.pt (pw_and (pt_cmpR (show OpR _ (compareOp .In) (rIn K false) from op_in_seq) (pe_ix (show IxR _ (rIxL K) from ix_list) (pv 5) pe_int (fun _ _ => rfl)) (pv 10) (by rfl)) (pw_and1 (pt_val ?e1)))))) (fun _ _ _ _ _ => (pv 10)))
  (pss_cons (ps_if (PW.pt (pw_or (pt_cmpR (op_notInD hr.units65) (pv 7) (pv 8) (by rfl)) (pw_or (pt_val (pe_callB (cr_any rfl) (by rfl) T.any (by decide +kernel) (pa_cons (pe_lc (own := [("_law_name", 9)]) (g := gName 9) (tt := tYes) rfl scRR.nd (pi_tup (pv 6)) (blkOk_by (own := [("_law_name", 9)]) (N := nRR) (sc := defScope sRR) (by decide +kernel)) (fun _ _ _ _ _ => (pg_name (i := 9) scRR.nd rfl (.inl rfl))) (fun _ _ _ _ _ => pts_nil) (fun _ _ _ _ _ => (pe_cmpR (show OpR _ (compareOp .In) (rIn K false) from op_in_seq) (pv 9) (pv 2) (by rfl)))) pa_nil))) (pw_or1 (pt_cmpR op_ne (pe_callB call_lenX (by rfl) T.len PySem.boot_len (pa_cons (pe_callTy (call_setX rfl) (by rfl) T.set (by decide +kernel) (pa_cons (pv 6) pa_nil)) pa_nil)) (pe_callB call_len_seq (by rfl) T.len PySem.boot_len (pa_cons (pv 6) pa_nil)) (nomark _))))))
  (pss_one (ps_ret pe_bl))
  pss_nil)
  (pss_one (ps_ret (pe_callB (cr_all rfl) (by rfl) T.all (by decide +kernel) (pa_cons (pe_lc (own := [("_law_one", 10)]) (g := gName 10) (tt := tYes) (te := tCB (rAll K) (tCons (tLc (iTup K (tVar 7)) (gName 9) tYes (tOp (rIn K false) (tVar 9) (tVar 10)) [9]) tNil)) rfl scRR.nd (pi_list (pv 8)) (blkOk_by (own := [("_law_one", 10)]) (N := nRR) (sc := defScope sRR) (by decide +kernel)) (fun _ _ _ _ _ => (pg_name (i := 10) scRR.nd rfl (.inr rfl))) (fun _ _ _ _ _ => pts_nil) (fun _ _ _ _ _ => ?e2)) pa_nil)))))))))), ?_⟩
    case e1 => exact (pe_callB (show CallR _ (.builtin "all") (rAll K) from cr_all rfl) (by rfl) T.all (by decide +kernel) (pa_cons (pe_lc (own := [("_law_name", 9)]) (g := gName 9) (tt := tYes) rfl scRR.nd (pi_tup (pv 2)) (blkOk_by (own := [("_law_name", 9)]) (N := nRR) (sc := scRR1) (by decide +kernel)) (fun _ _ _ _ _ => (pg_name (i := 9) scRR.nd rfl (.inl rfl))) (fun _ _ _ _ _ => pts_nil) (fun _ _ _ _ _ => (pe_cmpR (show OpR _ (compareOp .In) (rIn K false) from op_in_seq) (pv 9) (pv 10) (by rfl)))) pa_nil))
    case e2 => exact (pe_callB (show CallR _ (.builtin "all") (rAll K) from cr_all rfl) (by rfl) T.all (by decide +kernel) (pa_cons (pe_lc (own := [("_law_name", 9)]) (g := gName 9) (tt := tYes) rfl scRR.nd (pi_tup (pv 7)) (blkOk_by (own := [("_law_name", 9)]) (N := nRR) (sc := scRR2) (by decide +kernel)) (fun _ _ _ _ _ => (pg_name (i := 9) scRR.nd rfl (.inl rfl))) (fun _ _ _ _ _ => pts_nil) (fun _ _ _ _ _ => (pe_cmpR (show OpR _ (compareOp .In) (rIn K false) from op_in_seq) (pv 9) (pv 10) (by rfl)))) pa_nil))
    have ll := ls_len (rows := rows) d
    have asz : ∀ z ∈ zs, Asc z := fun z m => asc_zs tx m
    refine ⟨.ref ch, rfl, ch, rfl, ⟨_, SqL.of ech⟩, fun D1 nD1 => ?_⟩
    refine filt_list (l := lsN rows d) (enc := V.str) (out := V.str) (p := fun y => !decide (y ∈ cs)) ech nD1 (by omega) (fun y my J sJ R h => ?_) fun J1 eD1 sJ1 => ?_
    · refine h _ rfl (fun Q hq => ?_) (fun Q hq => ⟨_, rfl, hq⟩)
      refine ⟨_, rfl, .ref c, rfl, c, _, rfl, .inr (SqT.of (sJ _ _ ec)), rfl, flat_strs cs, _, rfl, ?_⟩
      show Q (!inV (.str y) (cs.map V.str)) J
      rw [in_dec]
      exact hq
    have k1 : Tbs ps H J1 := .of_same tt sJ1
    have dnz : ∀ y ∈ (lsN rows d).filter (fun y => !decide (y ∈ cs)), y ∈ zs := fun y my => ls_zs tx (List.mem_filter.mp my).1
    have dnc : ∀ y ∈ (lsN rows d).filter (fun y => !decide (y ∈ cs)), y ∉ cs := fun y my => by
      have := (List.mem_filter.mp my).2
      rw [Bool.not_eq_true', decide_eq_false_iff_not] at this
      exact this
    generalize hdn : (lsN rows d).filter (fun y => !decide (y ∈ cs)) = dn at eD1 dnz dnc
    refine ⟨.ref D1, rfl, by show 0 ≤ sizeLine; decide, fun e0 ne0 => ?_⟩
    have se0 := same_upd (o := .lst []) ne0
    refine ⟨.list (dn.map PyData.str), .list (([] : List Str).map PyData.str), dp_strs (SqL.of (se0 _ _ eD1)), dp_strs (SqL.of upd_same), shaped_strs fun z m => asz z (dnz z m), shaped_strs (zs := []) nofun, _, rfl, ?_⟩
    rw [eqv_strs]
    have k2 := k1.same_ se0
    have eD1' := se0 _ _ eD1
    generalize upd J1 e0 (.lst []) = J2 at k2 eD1' ⊢
    cases dn with
    | nil =>
      refine iffT (decide_eq_true rfl) ?_
      exact q _ k2
    | cons z dn' =>
    refine iffF (decide_eq_false fun e => nomatch e) ?_
    have mzc : z ∉ cs := dnc z List.mem_cons_self
    have mzz : z ∈ zs := dnz z List.mem_cons_self
    -- the program's word
    refine ⟨.ref t, rfl, .ref c, rfl, .str d, rfl, t, c, rows, zs, cs, d, z, dn', rfl, k2.tab, k2.heap tt hin, rl, tx, k2.tup tt ec, hdn, fun J3 pn ns k3' npn epn nnd mem => ?_⟩
    have k3 : Tbs ps H J3 := k2.trans k3'
    have eD3 := k3'.lst k2.tab eD1'
    have ec3 := k3.tup tt ec
    have cl40 : cs.length ≤ rows.length := cut.len tx
    have nd2 := red_nodup cut nnd mem
    have cn40 : (cs ++ ns).length ≤ rows.length := by
      have := nodup_len nd2 (m := zs) fun y my => by
        rcases List.mem_append.mp my with m | m
        · exact cut.z y m
        · exact (((mem y).mp m).2.mem tx).1
      rw [tx.len] at this
      exact this
    have nl40 : ns.length ≤ 40 := by
      rw [List.length_append] at cn40
      omega
    refine ⟨.ref c, rfl, .ref pn, rfl, catX ec3 epn (by rw [List.length_map, List.length_map]; omega) fun J4 v4 s4 e4 => ?_⟩
    rw [← List.map_append] at e4
    refine ⟨v4, cs ++ ns, rfl, SqT.of e4, by omega, fun ys p4 pm so np4 => ?_⟩
    have asc := sorted_asc (pm.nodup_iff.mpr nd2) so
    have af := red_after tx cut mem pm asc
    have zaf : z ∈ ys := pm.symm.subset (List.mem_append_right _ ((mem z).mpr ⟨mzc, Le.refl tx mzz⟩))
    have afc : ∀ y ∈ cs, y ∈ ys := fun y m => pm.symm.subset (List.mem_append_left _ m)
    have yl : ys.length ≤ 40 := by
      rw [pm.length_eq]
      omega
    refine ⟨p4, _, rfl, .inl ⟨SqL.of upd_same, fun pa npa => ?_⟩⟩
    have s5 := (same_upd (o := .lst (ys.map V.str)) np4).trans (same_upd (o := .tup (ys.map V.str)) npa)
    have s35 := s4.trans s5
    have epa : (upd (upd J4 p4 (.lst (ys.map V.str))) pa (.tup (ys.map V.str))) pa = some (.tup (ys.map V.str)) := upd_same
    have k5 : Tbs ps H _ := k3.same_ s35
    have eD5 := s35 _ _ eD3
    have epn5 := s35 _ _ epn
    generalize upd (upd J4 p4 (.lst (ys.map V.str))) pa (.tup (ys.map V.str)) = J5 at epa k5 s35 eD5 epn5 ⊢
    have ec5 := k5.tup tt ec
    have ecl5 := k5.lst tt ecl
    have tps5 : Tps J5 bs := fun b m => k5.tup tt (tps b m)
    have b40 : ∀ b ∈ bs, b.2.length ≤ 40 := fun b m => Nat.le_trans ((sound b m).len tx) rl
    -- the larger cuts
    refine ⟨.ref cl, rfl, cl, rfl, ⟨_, SqL.of ecl5⟩, fun D3 nD3 => ?_⟩
    refine filtS_list (l := bs) (enc := fun b => V.ref b.1) (out := fun b => V.ref b.1) (p := fun b => decide (z ∈ b.2) && cs.all fun y => decide (y ∈ b.2)) ecl5 nD3 (by omega) (fun b mb J sJ R h => ?_) fun J6 eD6 sJ6 => ?_
    · refine h _ rfl (fun Q hq => ?_) (fun J' _ Q hq => ⟨_, rfl, hq J' (Same.refl _)⟩)
      have eb := sJ _ _ (tps5 b mb)
      refine ⟨.ref D1, rfl, D1, _, 0, .str z, rfl, rfl, SqL.of (sJ _ _ eD5), (show atI ((z :: dn').map V.str) ((0 : Nat) : Int) = some (V.str z) from atI_nat rfl), .ref b.1, rfl, b.1, _, rfl, .inr (SqT.of eb), rfl, flat_strs _, _, rfl, ?_⟩
      show if (inV (.str z) (b.2.map V.str)) = true then _ else _
      rw [in_dec]
      by_cases mz : z ∈ b.2
      · refine iffT (decide_eq_true mz) ?_
        have ecJ := sJ _ _ ec5
        refine ⟨.ref c, rfl, c, rfl, ⟨_, SqT.of ecJ⟩, fun D8 nD8 => ?_⟩
        refine filt_tup (l := cs) (enc := V.str) (out := fun y => V.bl (decide (y ∈ b.2))) (p := fun _ => true) ecJ nD8 (by omega) (fun y my J8 sJ8 R h => ?_) fun J8 eD8 sJ8 => ?_
        · refine h _ rfl (fun Q hq => hq) (fun Q hq => ?_)
          refine ⟨_, rfl, .ref b.1, rfl, b.1, _, rfl, .inr (SqT.of (sJ8 _ _ eb)), rfl, flat_strs _, ?_⟩
          show Q (.bl (inV (.str y) (b.2.map V.str))) J8
          rw [in_dec]
          exact hq
        rw [List.filter_eq_self.mpr (fun _ _ => rfl)] at eD8
        refine ⟨D8, cs.map fun y => decide (y ∈ b.2), rfl, SqL.of (by rw [List.map_map]; exact eD8), _, rfl, ?_⟩
        have := hq J8 sJ8
        rw [decide_eq_true mz] at this
        rw [List.all_map]
        exact this
      · refine iffF (decide_eq_false mz) ?_
        have := hq J (Same.refl _)
        rw [decide_eq_false mz] at this
        exact this
    have k6 : Tbs ps H J6 := k5.same_ sJ6
    have eD6' : J6 D3 = some (.lst ((bs.filter fun b => decide (z ∈ b.2) && cs.all fun y => decide (y ∈ b.2)).map fun b => V.ref b.1)) := eD6
    have sm : ∀ b ∈ bs.filter (fun b => decide (z ∈ b.2) && cs.all fun y => decide (y ∈ b.2)), b ∈ bs ∧ z ∈ b.2 ∧ ∀ y ∈ cs, y ∈ b.2 := fun b m => by
      obtain ⟨m1, m2⟩ := List.mem_filter.mp m
      rw [Bool.and_eq_true, decide_eq_true_iff, List.all_eq_true] at m2
      exact ⟨m1, m2.1, fun y my => of_decide_eq_true (m2.2 y my)⟩
    have hit : ∃ b ∈ bs.filter (fun b => decide (z ∈ b.2) && cs.all fun y => decide (y ∈ b.2)), b.2 = ys := by
      obtain ⟨b, mb, eb⟩ := full ys af
      refine ⟨b, List.mem_filter.mpr ⟨mb, ?_⟩, eb⟩
      rw [Bool.and_eq_true, decide_eq_true_iff, List.all_eq_true, eb]
      exact ⟨zaf, fun y my => decide_eq_true (afc y my)⟩
    have sml : (bs.filter fun b => decide (z ∈ b.2) && cs.all fun y => decide (y ∈ b.2)).length ≤ 64 := Nat.le_trans (List.length_filter_le _ _) bl64
    generalize bs.filter (fun b => decide (z ∈ b.2) && cs.all fun y => decide (y ∈ b.2)) = ms at eD6' sm hit sml
    have tpm : Tps J6 ms := fun b m => sJ6 _ _ (tps5 b (sm b m).1)
    have epa6 := sJ6 _ _ epa
    have epn6 := sJ6 _ _ epn5
    refine ⟨.ref pa, rfl, .ref D3, rfl, .tuple (ys.map PyData.str), ms.map tpD, .tup (SqT.of epa6) (dp_strl ys), .lst (SqL.of eD6') (tps_dp tpm), shaped_tup fun y my => asz y (af.z y my), tps_shaped fun b mb y my => asz y ((sound b (sm b mb).1).z y my), _, rfl, ?_⟩
    have any : ((ms.map tpD).any fun x => PyData.eqv x (.tuple (ys.map PyData.str))) = true := by
      obtain ⟨b, mb, eb⟩ := hit
      refine List.any_eq_true.mpr ⟨tpD b, List.mem_map_of_mem mb, ?_⟩
      unfold tpD
      rw [eqv_tps, eb]
      exact decide_eq_true rfl
    refine iffF (by rw [any]; rfl) ?_
    refine ⟨.ref pn, rfl, pn, rfl, ⟨_, SqT.of epn6⟩, fun D7 nD7 => ?_⟩
    have ec6 := k6.tup tt ec
    refine filt_tup (l := ns) (enc := V.str) (out := fun y => V.bl (decide (y ∈ cs))) (p := fun _ => true) epn6 nD7 (by omega) (fun y my J8 sJ8 R h => ?_) fun J7 eD7 sJ7 => ?_
    · refine h _ rfl (fun Q hq => hq) (fun Q hq => ?_)
      refine ⟨_, rfl, .ref c, rfl, c, _, rfl, .inr (SqT.of (sJ8 _ _ ec6)), rfl, flat_strs cs, ?_⟩
      show Q (.bl (inV (.str y) (cs.map V.str))) J8
      rw [in_dec]
      exact hq
    rw [List.filter_eq_self.mpr (fun _ _ => rfl)] at eD7
    refine ⟨D7, ns.map fun y => decide (y ∈ cs), rfl, SqL.of (by rw [List.map_map]; exact eD7), _, rfl, ?_⟩
    have alln : ((ns.map fun y => decide (y ∈ cs)).any id) = false := by
      rw [List.any_map, List.any_eq_false]
      intro y my
      show ¬ decide (y ∈ cs) = true
      rw [decide_eq_true_iff]
      exact ((mem y).mp my).1
    refine iffF alln ?_
    have k7 : Tbs ps H J7 := k6.same_ sJ7
    have epn7 := sJ7 _ _ epn6
    refine ⟨.ref pn, rfl, pn, ns, rfl, .inr (SqT.of epn7), by omega, fun s1 n1 ns1 _ n1e => ⟨s1, _, _, rfl, upd_same, ?_⟩⟩
    have ss1 := same_upd (o := SetXO w s1 (fun k => decide (k ∈ ns)) n1) ns1
    refine ⟨.ref pn, rfl, pn, _, rfl, .inr (SqT.of (ss1 _ _ epn7)), rfl, _, rfl, ?_⟩
    refine iffF (by rw [List.length_map, n1e nnd]; exact ne_self _) ?_
    have k8 := k7.same_ ss1
    have eD8 := ss1 _ _ (sJ7 _ _ eD6')
    have tp8 := (tpm.more sJ7).more ss1
    have epa8 := ss1 _ _ (sJ7 _ _ epa6)
    refine ⟨.ref D3, rfl, D3, rfl, ⟨_, SqL.of eD8⟩, fun D9 nD9 => ?_⟩
    refine filtS_list (l := ms) (enc := fun b => V.ref b.1) (out := fun _ => V.bl true) (p := fun _ => true) eD8 nD9 (by omega) (fun b mb J sJ R h => ?_) fun J9 eD9 sJ9 => ?_
    · refine h _ rfl (fun Q hq => hq J (Same.refl _)) (fun J' sJ' Q hq => ?_)
      have eb := sJ' _ _ (sJ _ _ (tp8 b mb))
      have epaJ := sJ' _ _ (sJ _ _ epa8)
      obtain ⟨mbs, zb, bcs⟩ := sm b mb
      refine ⟨.ref pa, rfl, pa, rfl, ⟨_, SqT.of epaJ⟩, fun D8 nD8 => ?_⟩
      refine filt_tup (l := ys) (enc := V.str) (out := fun y => V.bl (decide (y ∈ b.2))) (p := fun _ => true) epaJ nD8 (by omega) (fun y my J8 sJ8 R h => ?_) fun J8 eD8 sJ8 => ?_
      · refine h _ rfl (fun Q hq => hq) (fun Q hq => ?_)
        refine ⟨_, rfl, .ref b.1, rfl, b.1, _, rfl, .inr (SqT.of (sJ8 _ _ eb)), rfl, flat_strs _, ?_⟩
        show Q (.bl (inV (.str y) (b.2.map V.str))) J8
        rw [in_dec]
        exact hq
      rw [List.filter_eq_self.mpr (fun _ _ => rfl)] at eD8
      refine ⟨D8, ys.map fun y => decide (y ∈ b.2), rfl, SqL.of (by rw [List.map_map]; exact eD8), ?_⟩
      have alb : ((ys.map fun y => decide (y ∈ b.2)).all id) = true := by
        rw [List.all_map, List.all_eq_true]
        intro y my
        refine decide_eq_true ?_
        rcases List.mem_append.mp (pm.subset my) with m | m
        · exact bcs y m
        · exact (sound b mbs).c y z zb ((mem y).mp m).2
      rw [alb]
      exact hq J8 sJ8
    rw [List.filter_eq_self.mpr (fun _ _ => rfl)] at eD9
    refine ⟨D9, ms.map fun _ => true, rfl, SqL.of (by rw [List.map_map]; exact eD9), ?_⟩
    have fin : ((ms.map fun _ => true).all id) = true := by
      rw [List.all_map, List.all_eq_true]
      exact fun _ _ => rfl
    rw [fin]
    exact q _ (k8.same_ sJ9)
end
end Cu

namespace Cu
open PySem PySem.Spec PyProof.Rows L2
theorem Tbs.draw {ps : List Addr} {p : Addr} {H J J' : Hp} (k : Tbs ps H J) (n : H p = none) (np : p ∉ ps) (u : Upto p J J') : Tbs ps H J' := by
  refine ⟨fun b o nb e => u b o (ne_of_none e n) (k.keep b o nb e), fun q m => ?_⟩
  obtain ⟨qs, h, t⟩ := k.tab q m
  exact ⟨qs, u _ _ (fun z => np (by rw [← z]; exact m)) h, t⟩
theorem upto_tup {p b : Addr} {H J : Hp} {xs ys : List V} (u : Upto p H J) (hp : H p = some (.lst ys)) (e : H b = some (.tup xs)) : J b = some (.tup xs) := u b _ (fun z => by
  rw [z, hp] at e
  cases e) e
theorem HeapIn.upto {p t : Addr} {H J : Hp} {rows : List Row} {ys : List V} (h : HeapIn H t rows) (hp : H p = some (.lst ys)) (u : Upto p H J) : HeapIn J t rows :=
  ⟨upto_tup u hp h.at_, fun r m => upto_tup u hp (h.row r m), fun r m => upto_tup u hp (h.doc r m), h.flat, h.few⟩
abbrev sL : Stmt := topS 28
abbrev nL : List Str := ["_law_script", "_law_k", "_law_hand_here", "_law_heap_here", "_law_cuts", "_law_some", "_law_kind", "_law_document", "_law_chain", "_law_cut", "_law_turn", "_law_name", "_law_documents"]
theorem scL : FnScope nL ["_law_script"] (defScope sL) := ⟨rfl, rfl, rfl, by decide +kernel, rfl, by decide +kernel, by decide +kernel⟩
section
variable {P : Program} {w : World} {K : PySem.W.Frag} {mg : Str → Option Value} {base : Heap}
def spLaw (K : PySem.W.Frag) (ps : List Addr) : Sp := fun vs H Q _ => ∃ (a : Addr) (ns : List Int), vs = [.ref a] ∧ SqL K H a (ns.map V.int) ∧ (∀ p ∈ ps, GxR.TabG H p) ∧ ∀ H', Q (.bl true) H'
theorem ok_law {f fH fT fO fHp fSb fOr fAC fPs fUR fRR : Addr} {fd fdH fdT fdO fdHp fdSb fdOr fdAC fdPs fdUR fdRR : FuncData} {ps : List Addr} (F : Fun K "law" "law" sL f fd) (DH : Df K mg "_law_hand" sHand ["_law_script", "_law_k"] fH fdH) (DT : Df K mg "_law_take" sTake ["_law_hand_here", "_law_many"] fT fdT) (DO : Df K mg "_law_of" sOf ["_law_hand_here", "_law_some"] fO fdO) (DSb : Df K mg "_law_subset" sSub ["_law_hand_here", "_law_some", "_law_count"] fSb fdSb) (DHp : Df K mg "_law_heap" sHeap ["_law_hand_here", "_law_count", "_law_width"] fHp fdHp)
    (DOr : Df K mg "_law_order" sOr ["_law_heap_here"] fOr fdOr) (DAC : Df K mg "_law_all_cuts" sAC ["_law_heap_here"] fAC fdAC) (DPs : Df K mg "_law_presses" sPs ["_law_heap_here"] fPs fdPs) (DUR : Df K mg "_law_undo_right" sUR ["_law_cuts", "_law_chain", "_law_cut", "_law_heap_here", "_law_document"] fUR fdUR) (GUR : FnOk P w K mg base CX0 6 fUR fdUR ["_law_cuts", "_law_chain", "_law_cut", "_law_heap_here", "_law_document"] (spRt ps)) (DRR : Df K mg "_law_redo_right" sRR ["_law_cuts", "_law_chain", "_law_cut", "_law_heap_here", "_law_document"] fRR fdRR) (GRR : FnOk P w K mg base CX0 6 fRR fdRR ["_law_cuts", "_law_chain", "_law_cut", "_law_heap_here", "_law_document"] (spRt ps)) (T : Bl mg) :
    FnG P w K mg base CX0 7 f fd ["_law_script"] (spLaw K ps) := by
  have GH : FnOk P w K mg base CX0 1 fH fdH _ (spHand K) := ok_hand DH.F T
  have GT : FnOk P w K mg base CX0 1 fT fdT _ spTake := ok_take DT.F T
  have GL : FnOk P w K mg base CX0 2 fO fdO _ spOfL := ok_ofL DO.F DT T
  have GHp : FnOk P w K mg base CX0 3 fHp fdHp _ spHeap := ok_heap DHp.F DT DO DSb T
  have GAC : FnOk P w K mg base CX0 2 fAC fdAC _ spAC := ok_ac DAC.F DOr T
  have GPs : FnOk P w K mg base CX0 1 fPs fdPs _ spPs := ok_ps DPs.F T
  refine okG F scL (fun vs H Q E h => ?_) (fun cdv A outer s H vs Q E gd hr h => ?_)
  · obtain ⟨a, ns, rfl, _⟩ := h
    rfl
  · obtain ⟨a, ns, rfl, hS, tab, q⟩ := h
    refine ⟨_, (pss_cons (ps_for PassesOwn.never rfl (pi_range1 (by rfl) T.range (pa_cons (pe_callB (call_max2 rfl) (by rfl) T.max (by decide +kernel) (pa_cons pe_int (pa_cons (pe_callB (call_min2 rfl) (by rfl) T.min (by decide +kernel) (pa_cons pe_int (pa_cons (pe_callB call_len_seq (by rfl) T.len PySem.boot_len (pa_cons (pv 0) pa_nil)) pa_nil))) pa_nil))) pa_nil)) (pg_name (i := 1) scL.nd rfl (.inl rfl))
  (pss_cons (ps_set (i := 2) scL.nd rfl (.inr rfl) (pe_call GH (hr.mono (by omega)) (by rfl) DH.g DH.F.kp DH.b .nil pass0 (pa_cons (pv 0) (pa_cons (pv 1) pa_nil))))
  (pss_cons (ps_set (i := 3) scL.nd rfl (.inl rfl) (pe_call GHp (hr.mono (by omega)) (by rfl) DHp.g DHp.F.kp DHp.b .nil pass0 (pa_cons (pv 2) (pa_cons (pe_op op_add pe_int (pe_call GT (hr.mono (by omega)) (by rfl) DT.g DT.F.kp DT.b .nil pass0 (pa_cons (pv 2) (pa_cons pe_int pa_nil)))) (pa_cons (pe_op op_add pe_int (pe_call GT (hr.mono (by omega)) (by rfl) DT.g DT.F.kp DT.b .nil pass0 (pa_cons (pv 2) (pa_cons pe_int pa_nil)))) pa_nil)))))
  (pss_cons (ps_set (i := 4) scL.nd rfl (.inr rfl) (pe_call GAC (hr.mono (by omega)) (by rfl) DAC.g DAC.F.kp DAC.b .nil pass0 (pa_cons (pv 3) pa_nil)))
  (pss_cons (ps_set (i := 5) scL.nd rfl (.inl rfl) (pe_ifExp (pt_cmpR op_lt (pe_callB call_len_seq (by rfl) T.len PySem.boot_len (pa_cons (pv 4) pa_nil)) pe_int (nomark _)) (pv 4) (pe_lc (own := [("_law_turn", 10)]) (g := gName 10) (tt := tYes) rfl scL.nd (pi_range1 (by rfl) T.range (pa_cons pe_int pa_nil)) (blkOk_by (own := [("_law_turn", 10)]) (N := nL) (sc := defScope sL) (by decide +kernel)) (fun _ _ _ _ _ => (pg_name (i := 10) scL.nd rfl (.inl rfl))) (fun _ _ _ _ _ => pts_nil) (fun _ _ _ _ _ => (pe_call GL (hr.mono (by omega)) (by rfl) DO.g DO.F.kp DO.b .nil pass0 (pa_cons (pv 2) (pa_cons (pv 4) pa_nil)))))))
  (pss_one (ps_for PassesOwn.never rfl (pi_list (pe_call GPs (hr.mono (by omega)) (by rfl) DPs.g DPs.F.kp DPs.b .nil pass0 (pa_cons (pv 3) pa_nil))) (pg_tup rfl (pgs_cons (pg_name (i := 6) scL.nd rfl (.inl rfl)) (pgs_cons (pg_name (i := 7) scL.nd rfl (.inr rfl)) pgs_nil)))
  (pss_cons (ps_setLc (i := 8) (own := [("_law_name", 11), ("_law_documents", 12)]) (g := gTup K 2 (gCons (gName 11) (gCons (gName 12) gNil))) rfl scL.nd rfl rfl (sw_true rfl rfl rfl (by decide +kernel)) (pi_tup (pv 3)) (blkOk_by (own := [("_law_name", 11), ("_law_documents", 12)]) (N := nL) (sc := defScope sL) (by decide +kernel)) (fun _ _ _ _ _ => (pg_tup rfl (pgs_cons (pg_name (i := 11) scL.nd rfl (.inl rfl)) (pgs_cons (pg_name (i := 12) scL.nd rfl (.inl rfl)) pgs_nil)))) (fun _ _ _ _ _ => (pts_one (pt_cmpR (show OpR _ (compareOp .In) (rIn K false) from op_in_seq) (pv 7) (pv 12) (by rfl)))) (fun _ _ _ _ _ => (pv 11)))
  (pss_one (ps_for PassesOwn.never rfl (pi_list (pv 5)) (pg_name (i := 9) scL.nd rfl (.inl rfl))
  (pss_cons (ps_if (PW.pt (pw_and (pt_cmpR op_eq (pv 6) pe_str (nomark _)) (pw_and1 (pt_not (pt_val (pe_call GUR (hr.mono (by omega)) (by rfl) DUR.g DUR.F.kp DUR.b .nil pass0 (pa_cons (pv 4) (pa_cons (pv 8) (pa_cons (pv 9) (pa_cons (pv 3) (pa_cons (pv 7) pa_nil)))))))))))
  (pss_one (ps_ret pe_bl))
  pss_nil)
  (pss_one (ps_if (PW.pt (pw_and (pt_cmpR op_eq (pv 6) pe_str (nomark _)) (pw_and1 (pt_not (pt_val (pe_call GRR (hr.mono (by omega)) (by rfl) DRR.g DRR.F.kp DRR.b .nil pass0 (pa_cons (pv 4) (pa_cons (pv 8) (pa_cons (pv 9) (pa_cons (pv 3) (pa_cons (pv 7) pa_nil)))))))))))
  (pss_one (ps_ret pe_bl))
  pss_nil)))))))))))))
  (pss_one (ps_ret pe_bl))), ?_⟩
    refine ⟨.ref a, rfl, a, _, rfl, .inl hS, 2, _, rfl, 1, _, rfl, ?_⟩
    rw [List.length_map]
    have hN : (if (if (ns.length : Int) < 2 then (ns.length : Int) else 2) > 1 then (if (ns.length : Int) < 2 then (ns.length : Int) else 2) else 1) ≤ 2 ∧ 0 ≤ (if (if (ns.length : Int) < 2 then (ns.length : Int) else 2) > 1 then (if (ns.length : Int) < 2 then (ns.length : Int) else 2) else 1) := by
      constructor <;> (split <;> (try split) <;> omega)
    generalize (if (if (ns.length : Int) < 2 then (ns.length : Int) else 2) > 1 then (if (ns.length : Int) < 2 then (ns.length : Int) else 2) else 1) = N at hN
    refine ⟨N, rfl, by omega, by omega, ?_⟩
    refine for_range (lo := 0) (n := N.toNat) (fun i σ H1 => ∃ (y1 y2 y3 y4 y5 y6 y7 y8 y9 y10 y11 y12 : Option V), σ = [some (.ref a), y1, y2, y3, y4, y5, y6, y7, y8, y9, y10, y11, y12] ∧ Tbs ps H H1) ?_ ?_ ?_
    · exact ⟨_, _, _, _, _, _, _, _, _, _, _, _, rfl, .refl tab⟩
    · rintro i σ H1 hi ⟨y1, y2, y3, y4, y5, y6, y7, y8, y9, y10, y11, y12, rfl, t1⟩
      refine ⟨.ref a, rfl, .int (0 + (i : Nat)), rfl, a, _, ns, rfl, seq_tbs t1 tab hS, by omega, by omega, fun H2 p s2 np h2 => ?_⟩
      obtain ⟨Hp0, ptb⟩ := t1.free np
      have t2 : Tbs ps H H2 := t1.same_ s2
      refine ⟨.ref p, rfl, .ref p, rfl, p, 6, 0, rfl, h2, by decide, by decide, by decide, fun H5 v5 u5 h5 c0 c1 => ?_⟩
      obtain ⟨cn, rfl⟩ : ∃ cn : Nat, v5 = (cn : Int) := ⟨v5.toNat, by omega⟩
      refine ⟨1, _, rfl, rfl, .ref p, rfl, p, 5, 0 + 1, rfl, h5, by decide, by decide, by decide, fun H6 wd u6 h6 w0 w1 => ?_⟩
      obtain ⟨wn, rfl⟩ : ∃ wn : Nat, wd = (wn : Int) := ⟨wd.toNat, by omega⟩
      have F0s : ∀ H', Same (fun _ => none : Hp) H' := fun H' b o e => (nomatch e)
      have mk6 : Mk p (fun _ => none) H2 (fun _ => none) H6 := .draw (F0s _) (u5.trans u6) h6.some rfl
      refine ⟨1, _, rfl, rfl, p, cn + 1, wn + 1, 2, (fun _ => none), ?_, h6, by decide, by omega, by omega, by omega, mk6.sub, rfl, fun F7 H7 t rows zs mk7 h7 hin len nm nd inn sub => ?_⟩
      · have e1 : (1 : Int) + (wn : Int) = ((wn + 1 : Nat) : Int) := by omega
        have e2 : (1 : Int) + (cn : Int) = ((cn + 1 : Nat) : Int) := by omega
        show [V.ref p, V.int (1 + (cn : Int)), V.int (1 + (wn : Int))] = _
        rw [e1, e2]
      have mk := mk6.trans mk7
      have tx : Texts rows zs := ⟨nm, nd, fun r m => (sub r m).1, inn⟩
      have rl : rows.length ≤ 6 := by omega
      have k7 : Tbs ps H H7 := t2.draw Hp0 ptb mk.upto
      have hin7 : HeapIn H7 t rows := hin.more mk.sub
      clear mk mk6 mk7 F0s h6 h5 u5 u6 hin
      -- all cuts
      refine ⟨.ref t, rfl, t, rows, zs, rfl, hin7, rl, tx, fun H8 cl bs s8 ncl ecl tps sound full bl64 => ?_⟩
      have k8 : Tbs ps H H8 := k7.same_ s8
      have hin8 := hin7.more s8
      have h8 := h7.same s8
      have clp : cl ≠ p := Hand.ne h7.some ncl
      obtain ⟨b0, mb0, eb0⟩ := full [] ⟨nofun, fun a b m => (nomatch m), .nil⟩
      have bpos : 0 < bs.length := List.length_pos_of_mem mb0
      refine ⟨.ref cl, rfl, cl, _, rfl, .inl (SqL.of ecl), _, 17, rfl, rfl, _, rfl, ?_⟩
      by_cases h17 : (((bs.map fun b => V.ref b.1).length : Nat) : Int) < 17
      · refine iffT (decide_eq_true h17) ?_
        refine ⟨.ref cl, rfl, ?_⟩
        have k9 := k8
        have hin9 := hin8
        have ecl9 := ecl
        have tps9 := tps
        have eso := ecl
        have ssb : ∀ b ∈ bs, b ∈ bs := fun b m => m
        refine ⟨.ref t, rfl, t, rows, zs, rfl, hin9, rl, tx, fun J10 pp pq xs s10 npp epp prs10 kinds pl => ⟨_, rfl, ⟨_, SqL.of epp⟩, ?_⟩⟩
        have k10 : Tbs ps H J10 := k9.same_ s10
        have tt10 := k10.tab
        have hin10 := hin9.more s10
        have ecl10 := s10 _ _ ecl9
        have tps10 := tps9.more s10
        have eso10 := s10 _ _ eso
        refine for_list (K := K) (a := pp) (xs := pq.map V.ref) (fun j σ J => ∃ (y6 y7 y8 y9 y10 y11 y12 : Option V), σ = [some (.ref a), some (.int (0 + (i : Nat))), some (.ref p), some (.ref t), some (.ref cl), some (.ref cl), y6, y7, y8, y9, y10, y11, y12] ∧ Tbs ps J10 J) ?_ ?_ ?_ ?_
        · exact ⟨_, _, _, _, _, _, _, rfl, .refl tt10⟩
        · rintro j σ J _ ⟨_, _, _, _, _, _, _, _, kJ⟩
          exact SqL.of (kJ.lst tt10 epp)
        · rintro j x σ J hx ⟨y6, y7, y8, y9, y10, y11, y12, rfl, kJ⟩
          rw [List.getElem?_map] at hx
          obtain ⟨pa, hpa, rfl⟩ := Option.map_eq_some_iff.mp hx
          obtain ⟨⟨kd, vd⟩, hpr, _, epr⟩ := Paired.at prs10 hpa
          obtain ⟨hkd, d, hd⟩ := kinds _ (List.mem_of_getElem? hpr)
          have hd' : vd = .str d := hd
          subst hd'
          have hinJ := kJ.heap tt10 hin10
          refine ⟨pa, _, rfl, SqT.of (kJ.tup tt10 epr), rfl, _, _, rfl, _, _, rfl, rfl, ?_⟩
          refine ⟨.ref t, rfl, t, rfl, ⟨_, SqT.of hinJ.at_⟩, fun D nD => ?_⟩
          refine filt_tup (l := rows) (enc := fun r => V.ref r.1) (out := fun r => V.str (nmR r)) (p := hasD d) hinJ.at_ nD (by omega) (fun r mr J' sJ' R h => ?_) fun J11 eD sJ11 => ?_
          · refine ⟨r.1, _, rfl, SqT.of (sJ' _ _ (hinJ.row r mr)), rfl, _, _, rfl, _, _, rfl, rfl, h _ rfl (fun Q hq => ?_) (fun Q hq => ⟨r.2.1, rfl, (tx_of tx mr).nm ▸ hq⟩)⟩
            refine ⟨.str d, rfl, .ref r.2.2.1, rfl, r.2.2.1, _, rfl, .inr (SqT.of (sJ' _ _ (hinJ.doc r mr))), rfl, (hinJ.flat r mr).1, _, rfl, ?_⟩
            have ei : inV (.str d) r.2.2.2 = hasD d r := by
              rw [Bool.eq_iff_iff, in_str (tx_of tx mr).ds, has_iff]
            show Q (inV (.str d) r.2.2.2) J'
            rw [ei]
            exact hq
          have k11 : Tbs ps J10 J11 := kJ.same_ sJ11
          have tt11 := k11.tab
          have eD' : J11 D = some (.lst ((lsN rows d).map V.str)) := by
            rw [eD]
            unfold lsN
            rw [List.map_map]
            rfl
          have hin11 := k11.heap tt10 hin10
          have ecl11 := k11.lst tt10 ecl10
          have tps11 : Tps J11 bs := fun b m => k11.tup tt10 (tps10 b m)
          have eso11 := k11.lst tt10 eso10
          refine ⟨.ref cl, rfl, cl, rfl, ⟨_, SqL.of eso11⟩, ?_⟩
          refine for_list (K := K) (a := cl) (xs := bs.map fun b => V.ref b.1) (fun m σ J => ∃ (y9 y10 y11 y12 : Option V), σ = [some (.ref a), some (.int (0 + (i : Nat))), some (.ref p), some (.ref t), some (.ref cl), some (.ref cl), some (.str kd), some (.str d), some (.ref D), y9, y10, y11, y12] ∧ Tbs ps J11 J) ?_ ?_ ?_ ?_
          · exact ⟨_, _, _, _, rfl, .refl tt11⟩
          · rintro m σ J2 _ ⟨_, _, _, _, _, kJ2⟩
            exact SqL.of (kJ2.lst tt11 eso11)
          · rintro m x σ J2 hx ⟨y9, y10, y11, y12, rfl, kJ2⟩
            rw [List.getElem?_map] at hx
            obtain ⟨b, hb1, rfl⟩ := Option.map_eq_some_iff.mp hx
            have mb := ssb b (List.mem_of_getElem? hb1)
            have hin2 := kJ2.heap tt11 hin11
            have ecl2 := kJ2.lst tt11 ecl11
            have tps2 : Tps J2 bs := fun b m => kJ2.tup tt11 (tps11 b m)
            have eD2 := kJ2.lst tt11 eD'
            refine ⟨.str kd, rfl, rfl, _, rfl, ?_⟩
            rcases hkd with hk | hk
            · have hk' : kd = "undo" := hk
              subst hk'
              refine iffT (decide_eq_true rfl) ?_
              refine ⟨.ref cl, rfl, .ref D, rfl, .ref b.1, rfl, .ref t, rfl, .str d, rfl, cl, D, b.1, t, rows, zs, b.2, d, bs, rfl, kJ2.tab, hin2, by omega, tx, ecl2, tps2, sound, full, bl64, eD2, tps2 b mb, sound b mb, fun J3 k3 => ⟨_, rfl, ?_⟩⟩
              refine iffF rfl ?_
              refine ⟨_, rfl, rfl, _, rfl, ?_⟩
              refine iffF (by decide +kernel) ?_
              refine iffF rfl ?_
              exact ⟨_, _, _, _, rfl, kJ2.trans k3⟩
            · have hk' : kd = "redo" := hk
              subst hk'
              refine iffF (by decide +kernel) ?_
              refine iffF rfl ?_
              refine ⟨_, rfl, rfl, _, rfl, ?_⟩
              refine iffT (decide_eq_true rfl) ?_
              refine ⟨.ref cl, rfl, .ref D, rfl, .ref b.1, rfl, .ref t, rfl, .str d, rfl, cl, D, b.1, t, rows, zs, b.2, d, bs, rfl, kJ2.tab, hin2, by omega, tx, ecl2, tps2, sound, full, bl64, eD2, tps2 b mb, sound b mb, fun J3 k3 => ⟨_, rfl, ?_⟩⟩
              refine iffF rfl ?_
              exact ⟨_, _, _, _, rfl, kJ2.trans k3⟩
          · rintro σ J2 ⟨y9, y10, y11, y12, rfl, kJ2⟩
            exact ⟨_, _, _, _, _, _, _, rfl, k11.trans kJ2⟩
        · rintro σ J ⟨y6, y7, y8, y9, y10, y11, y12, rfl, kJ⟩
          exact ⟨_, _, _, _, _, _, _, _, _, _, _, _, rfl, k10.trans kJ⟩
      · refine iffF (decide_eq_false h17) ?_
        refine ⟨16, rfl, by decide, by decide, fun Dso nDso => ?_⟩
        have Dp : Dso ≠ p := Hand.ne h8.some nDso
        obtain ⟨hg, hx, hc, h8p, _⟩ := id h8
        have pcl : cl ≠ Dso := ne_of_none ecl nDso
        refine lc_range (lo := 0) (n := 16) (fun m J => ∃ ss : List Tp, Upto p H8 J ∧ Hand J p (2 + 102 * (cn + 1) + m) ∧ J Dso = some (.lst (ss.map fun b => V.ref b.1)) ∧ (∀ b ∈ ss, b ∈ bs) ∧ ss.length ≤ m) ?_ ?_ ?_
        · exact ⟨[], Upto.new nDso, h8.new nDso, upd_same, nofun, Nat.le_refl _⟩
        · rintro m J hm ⟨ss, uJ, hJ, eD, ssb, sl⟩
          refine ⟨rfl, lc_yes ?_⟩
          refine ⟨.ref p, rfl, .ref cl, rfl, p, cl, _, _, rfl, hJ, by omega, clp, uJ cl _ clp ecl, by rw [List.length_map]; exact bpos, by rw [List.length_map]; omega, fun J' v u' h' mv => ?_⟩
          obtain ⟨b, mb, rfl⟩ := List.mem_map.mp mv
          refine ⟨_, u' Dso _ Dp eD, small1000 (by rw [List.length_map]; omega), ss ++ [b], (uJ.trans u').put nDso, h'.at (upd_ne Dp.symm), ?_, fun b' m' => ?_, ?_⟩
          · rw [upd_same, List.map_append]
            rfl
          · rcases List.mem_append.mp m' with m' | m'
            · exact ssb b' m'
            · rw [List.mem_singleton.mp m']
              exact mb
          · rw [List.length_append]
            exact Nat.succ_le_succ sl
        rintro J9 ⟨ss, uJ, hJ, eso, ssb, sl⟩
        have k9 : Tbs ps H J9 := k8.draw Hp0 ptb uJ
        have hin9 : HeapIn J9 t rows := hin8.upto h8p uJ
        have ecl9 := uJ cl _ clp ecl
        have tps9 : Tps J9 bs := fun b m => upto_tup uJ h8p (tps b m)
        refine ⟨.ref t, rfl, t, rows, zs, rfl, hin9, rl, tx, fun J10 pp pq xs s10 npp epp prs10 kinds pl => ⟨_, rfl, ⟨_, SqL.of epp⟩, ?_⟩⟩
        have k10 : Tbs ps H J10 := k9.same_ s10
        have tt10 := k10.tab
        have hin10 := hin9.more s10
        have ecl10 := s10 _ _ ecl9
        have tps10 := tps9.more s10
        have eso10 := s10 _ _ eso
        refine for_list (K := K) (a := pp) (xs := pq.map V.ref) (fun j σ J => ∃ (y6 y7 y8 y9 y10 y11 y12 : Option V), σ = [some (.ref a), some (.int (0 + (i : Nat))), some (.ref p), some (.ref t), some (.ref cl), some (.ref Dso), y6, y7, y8, y9, y10, y11, y12] ∧ Tbs ps J10 J) ?_ ?_ ?_ ?_
        · exact ⟨_, _, _, _, _, _, _, rfl, .refl tt10⟩
        · rintro j σ J _ ⟨_, _, _, _, _, _, _, _, kJ⟩
          exact SqL.of (kJ.lst tt10 epp)
        · rintro j x σ J hx ⟨y6, y7, y8, y9, y10, y11, y12, rfl, kJ⟩
          rw [List.getElem?_map] at hx
          obtain ⟨pa, hpa, rfl⟩ := Option.map_eq_some_iff.mp hx
          obtain ⟨⟨kd, vd⟩, hpr, _, epr⟩ := Paired.at prs10 hpa
          obtain ⟨hkd, d, hd⟩ := kinds _ (List.mem_of_getElem? hpr)
          have hd' : vd = .str d := hd
          subst hd'
          have hinJ := kJ.heap tt10 hin10
          refine ⟨pa, _, rfl, SqT.of (kJ.tup tt10 epr), rfl, _, _, rfl, _, _, rfl, rfl, ?_⟩
          refine ⟨.ref t, rfl, t, rfl, ⟨_, SqT.of hinJ.at_⟩, fun D nD => ?_⟩
          refine filt_tup (l := rows) (enc := fun r => V.ref r.1) (out := fun r => V.str (nmR r)) (p := hasD d) hinJ.at_ nD (by omega) (fun r mr J' sJ' R h => ?_) fun J11 eD sJ11 => ?_
          · refine ⟨r.1, _, rfl, SqT.of (sJ' _ _ (hinJ.row r mr)), rfl, _, _, rfl, _, _, rfl, rfl, h _ rfl (fun Q hq => ?_) (fun Q hq => ⟨r.2.1, rfl, (tx_of tx mr).nm ▸ hq⟩)⟩
            refine ⟨.str d, rfl, .ref r.2.2.1, rfl, r.2.2.1, _, rfl, .inr (SqT.of (sJ' _ _ (hinJ.doc r mr))), rfl, (hinJ.flat r mr).1, _, rfl, ?_⟩
            have ei : inV (.str d) r.2.2.2 = hasD d r := by
              rw [Bool.eq_iff_iff, in_str (tx_of tx mr).ds, has_iff]
            show Q (inV (.str d) r.2.2.2) J'
            rw [ei]
            exact hq
          have k11 : Tbs ps J10 J11 := kJ.same_ sJ11
          have tt11 := k11.tab
          have eD' : J11 D = some (.lst ((lsN rows d).map V.str)) := by
            rw [eD]
            unfold lsN
            rw [List.map_map]
            rfl
          have hin11 := k11.heap tt10 hin10
          have ecl11 := k11.lst tt10 ecl10
          have tps11 : Tps J11 bs := fun b m => k11.tup tt10 (tps10 b m)
          have eso11 := k11.lst tt10 eso10
          refine ⟨.ref Dso, rfl, Dso, rfl, ⟨_, SqL.of eso11⟩, ?_⟩
          refine for_list (K := K) (a := Dso) (xs := ss.map fun b => V.ref b.1) (fun m σ J => ∃ (y9 y10 y11 y12 : Option V), σ = [some (.ref a), some (.int (0 + (i : Nat))), some (.ref p), some (.ref t), some (.ref cl), some (.ref Dso), some (.str kd), some (.str d), some (.ref D), y9, y10, y11, y12] ∧ Tbs ps J11 J) ?_ ?_ ?_ ?_
          · exact ⟨_, _, _, _, rfl, .refl tt11⟩
          · rintro m σ J2 _ ⟨_, _, _, _, _, kJ2⟩
            exact SqL.of (kJ2.lst tt11 eso11)
          · rintro m x σ J2 hx ⟨y9, y10, y11, y12, rfl, kJ2⟩
            rw [List.getElem?_map] at hx
            obtain ⟨b, hb1, rfl⟩ := Option.map_eq_some_iff.mp hx
            have mb := ssb b (List.mem_of_getElem? hb1)
            have hin2 := kJ2.heap tt11 hin11
            have ecl2 := kJ2.lst tt11 ecl11
            have tps2 : Tps J2 bs := fun b m => kJ2.tup tt11 (tps11 b m)
            have eD2 := kJ2.lst tt11 eD'
            refine ⟨.str kd, rfl, rfl, _, rfl, ?_⟩
            rcases hkd with hk | hk
            · have hk' : kd = "undo" := hk
              subst hk'
              refine iffT (decide_eq_true rfl) ?_
              refine ⟨.ref cl, rfl, .ref D, rfl, .ref b.1, rfl, .ref t, rfl, .str d, rfl, cl, D, b.1, t, rows, zs, b.2, d, bs, rfl, kJ2.tab, hin2, by omega, tx, ecl2, tps2, sound, full, bl64, eD2, tps2 b mb, sound b mb, fun J3 k3 => ⟨_, rfl, ?_⟩⟩
              refine iffF rfl ?_
              refine ⟨_, rfl, rfl, _, rfl, ?_⟩
              refine iffF (by decide +kernel) ?_
              refine iffF rfl ?_
              exact ⟨_, _, _, _, rfl, kJ2.trans k3⟩
            · have hk' : kd = "redo" := hk
              subst hk'
              refine iffF (by decide +kernel) ?_
              refine iffF rfl ?_
              refine ⟨_, rfl, rfl, _, rfl, ?_⟩
              refine iffT (decide_eq_true rfl) ?_
              refine ⟨.ref cl, rfl, .ref D, rfl, .ref b.1, rfl, .ref t, rfl, .str d, rfl, cl, D, b.1, t, rows, zs, b.2, d, bs, rfl, kJ2.tab, hin2, by omega, tx, ecl2, tps2, sound, full, bl64, eD2, tps2 b mb, sound b mb, fun J3 k3 => ⟨_, rfl, ?_⟩⟩
              refine iffF rfl ?_
              exact ⟨_, _, _, _, rfl, kJ2.trans k3⟩
          · rintro σ J2 ⟨y9, y10, y11, y12, rfl, kJ2⟩
            exact ⟨_, _, _, _, _, _, _, rfl, k11.trans kJ2⟩
        · rintro σ J ⟨y6, y7, y8, y9, y10, y11, y12, rfl, kJ⟩
          exact ⟨_, _, _, _, _, _, _, _, _, _, _, _, rfl, k10.trans kJ⟩
    · rintro σ H1 ⟨_, _, _, _, _, _, _, _, _, _, _, _, rfl, t1⟩
      exact q _
end
end Cu

namespace Cu
open PySem PySem.Spec PyProof.Rows L2
theorem all_nil {α : Type} {P : α → Prop} : ∀ p ∈ ([] : List α), P p := fun _ m => (nomatch m)
theorem all_cons {α : Type} {P : α → Prop} {x : α} {l : List α} (h : P x) (t : ∀ p ∈ l, P p) : ∀ p ∈ x :: l, P p := fun p m => by
  rcases List.mem_cons.mp m with e | e
  · rw [e]
    exact h
  · exact t p e
end Cu

namespace Cu
open PySem PySem.Spec PyProof.Rows L2
theorem all_mk {w : World} {K : PySem.W.Frag} {h : Heap} {mg : Str → Option Value} {fa fA fE fR fS fI fN fW fM fZ fB fV fH fT fO fU fY fD fC fP fJ fQ fL : Addr} {q : Program} {loose : List Str} {mean : ExcName → Option Value} {mb : Str → Option Value} {cS0 pS cI0 pI cB0 pB cV0 pV : Addr} {dS0 dI0 dB0 dV0 : DefRec} {oxS oxI oxB oxV : Value} {oyS oyI oyB oyV : Option Addr} {szS szI szB szV : Array (Option Value)} {vsS vsI vsB vsV : Array Value} (TT : Top q loose mean mg mb h) (X : K.In h) (G : h.Ns mainGlobals mg) (hfa : mg "law" = some (.ref fa))
    {odA anA odE anE odR anR odS anS odI anI odN anN odW anW odM anM odZ anZ odB anB odV anV odH anH odT anT odO anO odU anU odY anY odD anD odC anC odP anP odJ anJ odQ anQ odL anL : Option Addr} {slA slE slR slS slI slN slW slM slZ slB slV slH slT slO slU slY slD slC slP slJ slQ slL : Array (Option Value)} {ocA kVA dcA pmA ctA cdA ocE kVE dcE pmE ctE cdE ocR kVR dcR pmR ctR cdR ocS kVS dcS pmS ctS ocI kVI dcI pmI ctI ocN kVN dcN pmN ctN cdN ocW kVW dcW pmW ctW cdW ocM kVM dcM pmM ctM cdM ocZ kVZ dcZ pmZ ctZ cdZ ocB kVB dcB pmB ctB ocV kVV dcV pmV ctV ocH kVH dcH pmH ctH cdH ocT kVT dcT pmT ctT cdT ocO kVO dcO pmO ctO cdO ocU kVU dcU pmU ctU cdU ocY kVY dcY pmY ctY cdY ocD kVD dcD pmD ctD cdD ocC kVC dcC pmC ctC cdC ocP kVP dcP pmP ctP cdP ocJ kVJ dcJ pmJ ctJ cdJ ocQ kVQ dcQ pmQ ctQ cdQ ocL kVL dcL pmL ctL cdL : Value}
    (aA : PySem.W.nsIn K mainGlobals "up" = some (some (.ref fA))) (lA : K.lookup fA = some ⟨ocA, odA, .func (PySem.W.fnOf "up" "up" (defArgs sUp) (defBody sUp) (defScope sUp) .none kVA dcA pmA anA cdA ctA), slA⟩)
    (cA : PySem.W.codeIn K cdA "up" = true) (kA : PySem.W.keepIn K (.ref fA) = true)
    (aE : PySem.W.nsIn K mainGlobals "down" = some (some (.ref fE))) (lE : K.lookup fE = some ⟨ocE, odE, .func (PySem.W.fnOf "down" "down" (defArgs sDown) (defBody sDown) (defScope sDown) .none kVE dcE pmE anE cdE ctE), slE⟩)
    (cE : PySem.W.codeIn K cdE "down" = true) (kE : PySem.W.keepIn K (.ref fE) = true)
    (aR : PySem.W.nsIn K mainGlobals "reach" = some (some (.ref fR))) (lR : K.lookup fR = some ⟨ocR, odR, .func (PySem.W.fnOf "reach" "reach" (defArgs sReach) (defBody sReach) (defScope sReach) .none kVR dcR pmR anR cdR ctR), slR⟩)
    (cR : PySem.W.codeIn K cdR "reach" = true) (kR : PySem.W.keepIn K (.ref fR) = true)
    (aS : PySem.W.nsIn K mainGlobals "share" = some (some (.ref fS))) (lS : K.lookup fS = some ⟨ocS, odS, .func (PySem.W.fnOf "share" "share" (defArgs sShare) (defBody sShare) (defScope sShare) .none kVS dcS pmS anS (.ref cS0) ctS), slS⟩)
    (cS : PySem.W.codeIn K (.ref cS0) "share" = true) (kS : PySem.W.keepIn K (.ref fS) = true)
    (aI : PySem.W.nsIn K mainGlobals "list_of" = some (some (.ref fI))) (lI : K.lookup fI = some ⟨ocI, odI, .func (PySem.W.fnOf "list_of" "list_of" (defArgs sListOf) (defBody sListOf) (defScope sListOf) .none kVI dcI pmI anI (.ref cI0) ctI), slI⟩)
    (cI : PySem.W.codeIn K (.ref cI0) "list_of" = true) (kI : PySem.W.keepIn K (.ref fI) = true)
    (aN : PySem.W.nsIn K mainGlobals "normal" = some (some (.ref fN))) (lN : K.lookup fN = some ⟨ocN, odN, .func (PySem.W.fnOf "normal" "normal" (defArgs sNo) (defBody sNo) (defScope sNo) .none kVN dcN pmN anN cdN ctN), slN⟩)
    (cN : PySem.W.codeIn K cdN "normal" = true) (kN : PySem.W.keepIn K (.ref fN) = true)
    (aW : PySem.W.nsIn K mainGlobals "lowest" = some (some (.ref fW))) (lW : K.lookup fW = some ⟨ocW, odW, .func (PySem.W.fnOf "lowest" "lowest" (defArgs sLo) (defBody sLo) (defScope sLo) .none kVW dcW pmW anW cdW ctW), slW⟩)
    (cW : PySem.W.codeIn K cdW "lowest" = true) (kW : PySem.W.keepIn K (.ref fW) = true)
    (aM : PySem.W.nsIn K mainGlobals "undo_set" = some (some (.ref fM))) (lM : K.lookup fM = some ⟨ocM, odM, .func (PySem.W.fnOf "undo_set" "undo_set" (defArgs sUn) (defBody sUn) (defScope sUn) .none kVM dcM pmM anM cdM ctM), slM⟩)
    (cM : PySem.W.codeIn K cdM "undo_set" = true) (kM : PySem.W.keepIn K (.ref fM) = true)
    (aZ : PySem.W.nsIn K mainGlobals "redo_set" = some (some (.ref fZ))) (lZ : K.lookup fZ = some ⟨ocZ, odZ, .func (PySem.W.fnOf "redo_set" "redo_set" (defArgs sRd) (defBody sRd) (defScope sRd) .none kVZ dcZ pmZ anZ cdZ ctZ), slZ⟩)
    (cZ : PySem.W.codeIn K cdZ "redo_set" = true) (kZ : PySem.W.keepIn K (.ref fZ) = true)
    (aB : PySem.W.nsIn K mainGlobals "back_set" = some (some (.ref fB))) (lB : K.lookup fB = some ⟨ocB, odB, .func (PySem.W.fnOf "back_set" "back_set" (defArgs sBk) (defBody sBk) (defScope sBk) .none kVB dcB pmB anB (.ref cB0) ctB), slB⟩)
    (cB : PySem.W.codeIn K (.ref cB0) "back_set" = true) (kB : PySem.W.keepIn K (.ref fB) = true)
    (aV : PySem.W.nsIn K mainGlobals "forth_set" = some (some (.ref fV))) (lV : K.lookup fV = some ⟨ocV, odV, .func (PySem.W.fnOf "forth_set" "forth_set" (defArgs sFt) (defBody sFt) (defScope sFt) .none kVV dcV pmV anV (.ref cV0) ctV), slV⟩)
    (cV : PySem.W.codeIn K (.ref cV0) "forth_set" = true) (kV : PySem.W.keepIn K (.ref fV) = true)
    (aH : PySem.W.nsIn K mainGlobals "_law_hand" = some (some (.ref fH))) (lH : K.lookup fH = some ⟨ocH, odH, .func (PySem.W.fnOf "_law_hand" "_law_hand" (defArgs sHand) (defBody sHand) (defScope sHand) .none kVH dcH pmH anH cdH ctH), slH⟩)
    (cH : PySem.W.codeIn K cdH "_law_hand" = true) (kH : PySem.W.keepIn K (.ref fH) = true)
    (aT : PySem.W.nsIn K mainGlobals "_law_take" = some (some (.ref fT))) (lT : K.lookup fT = some ⟨ocT, odT, .func (PySem.W.fnOf "_law_take" "_law_take" (defArgs sTake) (defBody sTake) (defScope sTake) .none kVT dcT pmT anT cdT ctT), slT⟩)
    (cT : PySem.W.codeIn K cdT "_law_take" = true) (kT : PySem.W.keepIn K (.ref fT) = true)
    (aO : PySem.W.nsIn K mainGlobals "_law_of" = some (some (.ref fO))) (lO : K.lookup fO = some ⟨ocO, odO, .func (PySem.W.fnOf "_law_of" "_law_of" (defArgs sOf) (defBody sOf) (defScope sOf) .none kVO dcO pmO anO cdO ctO), slO⟩)
    (cO : PySem.W.codeIn K cdO "_law_of" = true) (kO : PySem.W.keepIn K (.ref fO) = true)
    (aU : PySem.W.nsIn K mainGlobals "_law_subset" = some (some (.ref fU))) (lU : K.lookup fU = some ⟨ocU, odU, .func (PySem.W.fnOf "_law_subset" "_law_subset" (defArgs sSub) (defBody sSub) (defScope sSub) .none kVU dcU pmU anU cdU ctU), slU⟩)
    (cU : PySem.W.codeIn K cdU "_law_subset" = true) (kU : PySem.W.keepIn K (.ref fU) = true)
    (aY : PySem.W.nsIn K mainGlobals "_law_heap" = some (some (.ref fY))) (lY : K.lookup fY = some ⟨ocY, odY, .func (PySem.W.fnOf "_law_heap" "_law_heap" (defArgs sHeap) (defBody sHeap) (defScope sHeap) .none kVY dcY pmY anY cdY ctY), slY⟩)
    (cY : PySem.W.codeIn K cdY "_law_heap" = true) (kY : PySem.W.keepIn K (.ref fY) = true)
    (aD : PySem.W.nsIn K mainGlobals "_law_order" = some (some (.ref fD))) (lD : K.lookup fD = some ⟨ocD, odD, .func (PySem.W.fnOf "_law_order" "_law_order" (defArgs sOr) (defBody sOr) (defScope sOr) .none kVD dcD pmD anD cdD ctD), slD⟩)
    (cD : PySem.W.codeIn K cdD "_law_order" = true) (kD : PySem.W.keepIn K (.ref fD) = true)
    (aC : PySem.W.nsIn K mainGlobals "_law_all_cuts" = some (some (.ref fC))) (lC : K.lookup fC = some ⟨ocC, odC, .func (PySem.W.fnOf "_law_all_cuts" "_law_all_cuts" (defArgs sAC) (defBody sAC) (defScope sAC) .none kVC dcC pmC anC cdC ctC), slC⟩)
    (cC : PySem.W.codeIn K cdC "_law_all_cuts" = true) (kC : PySem.W.keepIn K (.ref fC) = true)
    (aP : PySem.W.nsIn K mainGlobals "_law_presses" = some (some (.ref fP))) (lP : K.lookup fP = some ⟨ocP, odP, .func (PySem.W.fnOf "_law_presses" "_law_presses" (defArgs sPs) (defBody sPs) (defScope sPs) .none kVP dcP pmP anP cdP ctP), slP⟩)
    (cP : PySem.W.codeIn K cdP "_law_presses" = true) (kP : PySem.W.keepIn K (.ref fP) = true)
    (aJ : PySem.W.nsIn K mainGlobals "_law_undo_right" = some (some (.ref fJ))) (lJ : K.lookup fJ = some ⟨ocJ, odJ, .func (PySem.W.fnOf "_law_undo_right" "_law_undo_right" (defArgs sUR) (defBody sUR) (defScope sUR) .none kVJ dcJ pmJ anJ cdJ ctJ), slJ⟩)
    (cJ : PySem.W.codeIn K cdJ "_law_undo_right" = true) (kJ : PySem.W.keepIn K (.ref fJ) = true)
    (aQ : PySem.W.nsIn K mainGlobals "_law_redo_right" = some (some (.ref fQ))) (lQ : K.lookup fQ = some ⟨ocQ, odQ, .func (PySem.W.fnOf "_law_redo_right" "_law_redo_right" (defArgs sRR) (defBody sRR) (defScope sRR) .none kVQ dcQ pmQ anQ cdQ ctQ), slQ⟩)
    (cQ : PySem.W.codeIn K cdQ "_law_redo_right" = true) (kQ : PySem.W.keepIn K (.ref fQ) = true)
    (aL : PySem.W.nsIn K mainGlobals "law" = some (some (.ref fL))) (lL : K.lookup fL = some ⟨ocL, odL, .func (PySem.W.fnOf "law" "law" (defArgs sL) (defBody sL) (defScope sL) .none kVL dcL pmL anL cdL ctL), slL⟩)
    (cL : PySem.W.codeIn K cdL "law" = true) (kL : PySem.W.keepIn K (.ref fL) = true)
    (z_len : PySem.W.nsIn K mainGlobals "len" = some none)
    (z_abs : PySem.W.nsIn K mainGlobals "abs" = some none)
    (z_int : PySem.W.nsIn K mainGlobals "int" = some none)
    (z_range : PySem.W.nsIn K mainGlobals "range" = some none)
    (z_repr : PySem.W.nsIn K mainGlobals "repr" = some none)
    (z_max : PySem.W.nsIn K mainGlobals "max" = some none)
    (z_min : PySem.W.nsIn K mainGlobals "min" = some none)
    (z_all : PySem.W.nsIn K mainGlobals "all" = some none)
    (z_ord : PySem.W.nsIn K mainGlobals "ord" = some none)
    (z_isinstance : PySem.W.nsIn K mainGlobals "isinstance" = some none)
    (z_str : PySem.W.nsIn K mainGlobals "str" = some none)
    (z_bool : PySem.W.nsIn K mainGlobals "bool" = some none)
    (z_tuple : PySem.W.nsIn K mainGlobals "tuple" = some none)
    (z_list : PySem.W.nsIn K mainGlobals "list" = some none)
    (z_sorted : PySem.W.nsIn K mainGlobals "sorted" = some none)
    (z_set : PySem.W.nsIn K mainGlobals "set" = some none)
    (z_dict : PySem.W.nsIn K mainGlobals "dict" = some none)
    (z_any : PySem.W.nsIn K mainGlobals "any" = some none)
    (z_zip : PySem.W.nsIn K mainGlobals "zip" = some none)
    (z_enumerate : PySem.W.nsIn K mainGlobals "enumerate" = some none)
    (rS : (recsOf q).find? (fun e => e.name == ("share" : Str)) = some dS0) (tlS : K.lookup cS0 = some ⟨oxS, oyS, .fields vsS, szS⟩) (pvS : vsS[11]? = some (.ref pS))
    (rI : (recsOf q).find? (fun e => e.name == ("list_of" : Str)) = some dI0) (tlI : K.lookup cI0 = some ⟨oxI, oyI, .fields vsI, szI⟩) (pvI : vsI[11]? = some (.ref pI))
    (rB : (recsOf q).find? (fun e => e.name == ("back_set" : Str)) = some dB0) (tlB : K.lookup cB0 = some ⟨oxB, oyB, .fields vsB, szB⟩) (pvB : vsB[11]? = some (.ref pB))
    (rV : (recsOf q).find? (fun e => e.name == ("forth_set" : Str)) = some dV0) (tlV : K.lookup cV0 = some ⟨oxV, oyV, .fields vsV, szV⟩) (pvV : vsV[11]? = some (.ref pV))
    (nt : PySem.W.noTabs K = true) : LawG PySem.Challenge.rw_crossundo_k17_whole_fewest_changes w K 7 63 "_law_script" mg fa h := by
  have e := hfa.symm.trans (PySem.W.mg_of X G aL)
  cases e
  have T : Bl mg := { len := PySem.W.mg_none_of X G z_len, abs := PySem.W.mg_none_of X G z_abs, int := PySem.W.mg_none_of X G z_int, range := PySem.W.mg_none_of X G z_range, repr := PySem.W.mg_none_of X G z_repr, max := PySem.W.mg_none_of X G z_max, min := PySem.W.mg_none_of X G z_min, all := PySem.W.mg_none_of X G z_all, ord := PySem.W.mg_none_of X G z_ord, isinstance := PySem.W.mg_none_of X G z_isinstance, str := PySem.W.mg_none_of X G z_str, bool := PySem.W.mg_none_of X G z_bool, tuple := PySem.W.mg_none_of X G z_tuple, list := PySem.W.mg_none_of X G z_list, sorted := PySem.W.mg_none_of X G z_sorted, set := PySem.W.mg_none_of X G z_set, dict := PySem.W.mg_none_of X G z_dict, any := PySem.W.mg_none_of X G z_any, zip := PySem.W.mg_none_of X G z_zip, enumerate := PySem.W.mg_none_of X G z_enumerate }
  have tabS := tabIn_of aS lS rfl tlS pvS
  have hd_S := PySem.W.tab_of TT X rS tabS
  have tabI := tabIn_of aI lI rfl tlI pvI
  have hd_I := PySem.W.tab_of TT X rI tabI
  have tabB := tabIn_of aB lB rfl tlB pvB
  have hd_B := PySem.W.tab_of TT X rB tabB
  have tabV := tabIn_of aV lV rfl tlV pvV
  have hd_V := PySem.W.tab_of TT X rV tabV
  have FA := fun_mk (st := sUp) lA cA kA
  have DA : Df K mg "up" sUp ["heap", "names"] fA _ := ⟨FA, PySem.W.mg_of X G aA, FA.binds (ps := ["heap", "names"]) fun _ _ _ _ _ _ us hl => match us, hl with | [_, _], _ => rfl⟩
  have FE := fun_mk (st := sDown) lE cE kE
  have DE : Df K mg "down" sDown ["heap", "names"] fE _ := ⟨FE, PySem.W.mg_of X G aE, FE.binds (ps := ["heap", "names"]) fun _ _ _ _ _ _ us hl => match us, hl with | [_, _], _ => rfl⟩
  have FR := fun_mk (st := sReach) lR cR kR
  have DR : Df K mg "reach" sReach ["actions", "names"] fR _ := ⟨FR, PySem.W.mg_of X G aR, FR.binds (ps := ["actions", "names"]) fun _ _ _ _ _ _ us hl => match us, hl with | [_, _], _ => rfl⟩
  have FS := fun_mk (st := sShare) lS cS kS
  have DS : Df K mg "share" sShare ["documents", "others"] fS _ := ⟨FS, PySem.W.mg_of X G aS, FS.binds (ps := ["documents", "others"]) fun _ _ _ _ _ _ us hl => match us, hl with | [_, _], _ => rfl⟩
  have FI := fun_mk (st := sListOf) lI cI kI
  have DI : Df K mg "list_of" sListOf ["heap", "document"] fI _ := ⟨FI, PySem.W.mg_of X G aI, FI.binds (ps := ["heap", "document"]) fun _ _ _ _ _ _ us hl => match us, hl with | [_, _], _ => rfl⟩
  have FN := fun_mk (st := sNo) lN cN kN
  have DN : Df K mg "normal" sNo ["heap"] fN _ := ⟨FN, PySem.W.mg_of X G aN, FN.binds (ps := ["heap"]) fun _ _ _ _ _ _ us hl => match us, hl with | [_], _ => rfl⟩
  have FW := fun_mk (st := sLo) lW cW kW
  have DW : Df K mg "lowest" sLo ["actions"] fW _ := ⟨FW, PySem.W.mg_of X G aW, FW.binds (ps := ["actions"]) fun _ _ _ _ _ _ us hl => match us, hl with | [_], _ => rfl⟩
  have FM := fun_mk (st := sUn) lM cM kM
  have DM : Df K mg "undo_set" sUn ["heap", "cut", "document"] fM _ := ⟨FM, PySem.W.mg_of X G aM, FM.binds (ps := ["heap", "cut", "document"]) fun _ _ _ _ _ _ us hl => match us, hl with | [_, _, _], _ => rfl⟩
  have FZ := fun_mk (st := sRd) lZ cZ kZ
  have DZ : Df K mg "redo_set" sRd ["heap", "cut", "document"] fZ _ := ⟨FZ, PySem.W.mg_of X G aZ, FZ.binds (ps := ["heap", "cut", "document"]) fun _ _ _ _ _ _ us hl => match us, hl with | [_, _, _], _ => rfl⟩
  have FB := fun_mk (st := sBk) lB cB kB
  have DB : Df K mg "back_set" sBk ["heap", "cut", "name"] fB _ := ⟨FB, PySem.W.mg_of X G aB, FB.binds (ps := ["heap", "cut", "name"]) fun _ _ _ _ _ _ us hl => match us, hl with | [_, _, _], _ => rfl⟩
  have FV := fun_mk (st := sFt) lV cV kV
  have DV : Df K mg "forth_set" sFt ["heap", "cut", "name"] fV _ := ⟨FV, PySem.W.mg_of X G aV, FV.binds (ps := ["heap", "cut", "name"]) fun _ _ _ _ _ _ us hl => match us, hl with | [_, _, _], _ => rfl⟩
  have FH := fun_mk (st := sHand) lH cH kH
  have DH : Df K mg "_law_hand" sHand ["_law_script", "_law_k"] fH _ := ⟨FH, PySem.W.mg_of X G aH, FH.binds (ps := ["_law_script", "_law_k"]) fun _ _ _ _ _ _ us hl => match us, hl with | [_, _], _ => rfl⟩
  have FT := fun_mk (st := sTake) lT cT kT
  have DT : Df K mg "_law_take" sTake ["_law_hand_here", "_law_many"] fT _ := ⟨FT, PySem.W.mg_of X G aT, FT.binds (ps := ["_law_hand_here", "_law_many"]) fun _ _ _ _ _ _ us hl => match us, hl with | [_, _], _ => rfl⟩
  have FO := fun_mk (st := sOf) lO cO kO
  have DO : Df K mg "_law_of" sOf ["_law_hand_here", "_law_some"] fO _ := ⟨FO, PySem.W.mg_of X G aO, FO.binds (ps := ["_law_hand_here", "_law_some"]) fun _ _ _ _ _ _ us hl => match us, hl with | [_, _], _ => rfl⟩
  have FU := fun_mk (st := sSub) lU cU kU
  have DU : Df K mg "_law_subset" sSub ["_law_hand_here", "_law_some", "_law_count"] fU _ := ⟨FU, PySem.W.mg_of X G aU, FU.binds (ps := ["_law_hand_here", "_law_some", "_law_count"]) fun _ _ _ _ _ _ us hl => match us, hl with | [_, _, _], _ => rfl⟩
  have FY := fun_mk (st := sHeap) lY cY kY
  have DY : Df K mg "_law_heap" sHeap ["_law_hand_here", "_law_count", "_law_width"] fY _ := ⟨FY, PySem.W.mg_of X G aY, FY.binds (ps := ["_law_hand_here", "_law_count", "_law_width"]) fun _ _ _ _ _ _ us hl => match us, hl with | [_, _, _], _ => rfl⟩
  have FD := fun_mk (st := sOr) lD cD kD
  have DD : Df K mg "_law_order" sOr ["_law_heap_here"] fD _ := ⟨FD, PySem.W.mg_of X G aD, FD.binds (ps := ["_law_heap_here"]) fun _ _ _ _ _ _ us hl => match us, hl with | [_], _ => rfl⟩
  have FC := fun_mk (st := sAC) lC cC kC
  have DC : Df K mg "_law_all_cuts" sAC ["_law_heap_here"] fC _ := ⟨FC, PySem.W.mg_of X G aC, FC.binds (ps := ["_law_heap_here"]) fun _ _ _ _ _ _ us hl => match us, hl with | [_], _ => rfl⟩
  have FP := fun_mk (st := sPs) lP cP kP
  have DP : Df K mg "_law_presses" sPs ["_law_heap_here"] fP _ := ⟨FP, PySem.W.mg_of X G aP, FP.binds (ps := ["_law_heap_here"]) fun _ _ _ _ _ _ us hl => match us, hl with | [_], _ => rfl⟩
  have FJ := fun_mk (st := sUR) lJ cJ kJ
  have DJ : Df K mg "_law_undo_right" sUR ["_law_cuts", "_law_chain", "_law_cut", "_law_heap_here", "_law_document"] fJ _ := ⟨FJ, PySem.W.mg_of X G aJ, FJ.binds (ps := ["_law_cuts", "_law_chain", "_law_cut", "_law_heap_here", "_law_document"]) fun _ _ _ _ _ _ us hl => match us, hl with | [_, _, _, _, _], _ => rfl⟩
  have FQ := fun_mk (st := sRR) lQ cQ kQ
  have DQ : Df K mg "_law_redo_right" sRR ["_law_cuts", "_law_chain", "_law_cut", "_law_heap_here", "_law_document"] fQ _ := ⟨FQ, PySem.W.mg_of X G aQ, FQ.binds (ps := ["_law_cuts", "_law_chain", "_law_cut", "_law_heap_here", "_law_document"]) fun _ _ _ _ _ _ us hl => match us, hl with | [_, _, _, _, _], _ => rfl⟩
  have FL := fun_mk (st := sL) lL cL kL
  refine ⟨PySem.W.fnOf "law" "law" (defArgs sL) (defBody sL) (defScope sL) .none kVL dcL pmL anL cdL ctL, [(cS0, pS), (cI0, pI), (cB0, pB), (cV0, pV)], spLaw K [pS, pI, pB, pV], all_cons hd_S.2 (all_cons hd_I.2 (all_cons hd_B.2 (all_cons hd_V.2 all_nil))), all_cons (out_of_K X nt hd_S.2) (all_cons (out_of_K X nt hd_I.2) (all_cons (out_of_K X nt hd_B.2) (all_cons (out_of_K X nt hd_V.2) all_nil))), all_cons hd_S.1 (all_cons hd_I.1 (all_cons hd_B.1 (all_cons hd_V.1 all_nil))), fun s v => .of_eq rfl, fun H a ns hl hT hS => ⟨a, ns, rfl, hS, (all_cons ⟨#[], hT _ List.mem_cons_self, tri0⟩ (all_cons ⟨#[], hT _ (List.mem_cons_of_mem _ List.mem_cons_self), tri0⟩ (all_cons ⟨#[], hT _ (List.mem_cons_of_mem _ (List.mem_cons_of_mem _ List.mem_cons_self)), tri0⟩ (all_cons ⟨#[], hT _ (List.mem_cons_of_mem _ (List.mem_cons_of_mem _ (List.mem_cons_of_mem _ List.mem_cons_self))), tri0⟩ all_nil)))), fun _ => rfl⟩, fun base _ _ TB sy => ?_⟩
  have tbS := TB _ List.mem_cons_self
  have tbI := TB _ (List.mem_cons_of_mem _ List.mem_cons_self)
  have tbB := TB _ (List.mem_cons_of_mem _ (List.mem_cons_of_mem _ List.mem_cons_self))
  have tbV := TB _ (List.mem_cons_of_mem _ (List.mem_cons_of_mem _ (List.mem_cons_of_mem _ List.mem_cons_self)))
  have GS : FnOk PySem.Challenge.rw_crossundo_k17_whole_fewest_changes.prog w K mg base CX0 1 _ _ _ (spShare K pS) := ok_share FS (code_of aS lS tabS) tbS T
  have GI : FnOk PySem.Challenge.rw_crossundo_k17_whole_fewest_changes.prog w K mg base CX0 1 _ _ _ (spList K pI) := ok_listOf FI (code_of aI lI tabI) tbI T
  have GW : FnOk PySem.Challenge.rw_crossundo_k17_whole_fewest_changes.prog w K mg base CX0 2 _ _ _ (spLow pS) := ok_low FW DS GS T
  have GN : FnOk PySem.Challenge.rw_crossundo_k17_whole_fewest_changes.prog w K mg base CX0 3 _ _ _ (spNorm pS) := ok_norm FN DW GW T
  have GR : FnOk PySem.Challenge.rw_crossundo_k17_whole_fewest_changes.prog w K mg base CX0 2 _ _ _ (spReach pS) := ok_reach FR DS GS T
  have GA : FnOk PySem.Challenge.rw_crossundo_k17_whole_fewest_changes.prog w K mg base CX0 3 _ _ _ (spUp pS reachL) := ok_up FA DR GR T
  have GE : FnOk PySem.Challenge.rw_crossundo_k17_whole_fewest_changes.prog w K mg base CX0 3 _ _ _ (spUp pS downL) := ok_down FE DR GR T
  have GB : FnOk PySem.Challenge.rw_crossundo_k17_whole_fewest_changes.prog w K mg base CX0 4 _ _ _ (spSet [pS, pI, pB, pV] fun rows cs z y => y ∈ cs ∧ Le rows z y) := ok_bk FB (code_of aB lB tabB) tbB (by simp) (by simp) DN GN DA GA T
  have GV : FnOk PySem.Challenge.rw_crossundo_k17_whole_fewest_changes.prog w K mg base CX0 4 _ _ _ (spSet [pS, pI, pB, pV] fun rows cs z y => y ∉ cs ∧ Le rows y z) := ok_ft FV (code_of aV lV tabV) tbV (by simp) (by simp) DN GN DE GE T
  have GM : FnOk PySem.Challenge.rw_crossundo_k17_whole_fewest_changes.prog w K mg base CX0 5 _ _ _ (spUn [pS, pI, pB, pV]) := ok_un FM (by simp) DI GI DB GB T
  have GZ : FnOk PySem.Challenge.rw_crossundo_k17_whole_fewest_changes.prog w K mg base CX0 5 _ _ _ (spRd [pS, pI, pB, pV]) := ok_rd FZ (by simp) DI GI DV GV T
  have GJ : FnOk PySem.Challenge.rw_crossundo_k17_whole_fewest_changes.prog w K mg base CX0 6 _ _ _ (spRt [pS, pI, pB, pV]) := ok_ur FJ DM GM T
  have GQ : FnOk PySem.Challenge.rw_crossundo_k17_whole_fewest_changes.prog w K mg base CX0 6 _ _ _ (spRt [pS, pI, pB, pV]) := ok_rr FQ DZ GZ T
  exact ok_law FL DH DT DO DU DY DD DC DP DJ GJ DQ GQ T
end Cu
open PySem PySem.W PyProof.Rows
set_option maxRecDepth 100000 in
set_option maxHeartbeats 0 in
theorem PySem.Challenge.cw_crossundo_k17_whole_fewest_changes_holds : PySem.Challenge.rw_crossundo_k17_whole_fewest_changes.Holds := by
  w_on; o_law; k_head; (case hw => w_witness2)
  k_fill
  refine Cu.walkG (l := PySem.Challenge.rw_crossundo_k17_whole_fewest_changes) (n := 63) (k := 7) (x := "_law_script") rfl (by decide) rfl ⟨rfl, by decide, by decide⟩ (fun w h Y => PySem.W.kIn_of Y) (by rfl) ?F
  case F =>
    intro w mg mb mean fa h TT Y KX G hmg
    refine' Cu.all_mk TT KX G hmg ?aA ?lA ?cA ?kA ?aE ?lE ?cE ?kE ?aR ?lR ?cR ?kR ?aS ?lS ?cS ?kS ?aI ?lI ?cI ?kI ?aN ?lN ?cN ?kN ?aW ?lW ?cW ?kW ?aM ?lM ?cM ?kM ?aZ ?lZ ?cZ ?kZ ?aB ?lB ?cB ?kB ?aV ?lV ?cV ?kV ?aH ?lH ?cH ?kH ?aT ?lT ?cT ?kT ?aO ?lO ?cO ?kO ?aU ?lU ?cU ?kU ?aY ?lY ?cY ?kY ?aD ?lD ?cD ?kD ?aC ?lC ?cC ?kC ?aP ?lP ?cP ?kP ?aJ ?lJ ?cJ ?kJ ?aQ ?lQ ?cQ ?kQ ?aL ?lL ?cL ?kL ?z_len ?z_abs ?z_int ?z_range ?z_repr ?z_max ?z_min ?z_all ?z_ord ?z_isinstance ?z_str ?z_bool ?z_tuple ?z_list ?z_sorted ?z_set ?z_dict ?z_any ?z_zip ?z_enumerate ?rS ?tlS ?pvS ?rI ?tlI ?pvI ?rB ?tlB ?pvB ?rV ?tlV ?pvV ?nt
    (case aA => k_is)
    (case lA => k_is)
    (case cA => k_is)
    (case kA => k_is)
    (case aE => k_is)
    (case lE => k_is)
    (case cE => k_is)
    (case kE => k_is)
    (case aR => k_is)
    (case lR => k_is)
    (case cR => k_is)
    (case kR => k_is)
    (case aS => k_is)
    (case lS => k_is)
    (case cS => k_is)
    (case kS => k_is)
    (case aI => k_is)
    (case lI => k_is)
    (case cI => k_is)
    (case kI => k_is)
    (case aN => k_is)
    (case lN => k_is)
    (case cN => k_is)
    (case kN => k_is)
    (case aW => k_is)
    (case lW => k_is)
    (case cW => k_is)
    (case kW => k_is)
    (case aM => k_is)
    (case lM => k_is)
    (case cM => k_is)
    (case kM => k_is)
    (case aZ => k_is)
    (case lZ => k_is)
    (case cZ => k_is)
    (case kZ => k_is)
    (case aB => k_is)
    (case lB => k_is)
    (case cB => k_is)
    (case kB => k_is)
    (case aV => k_is)
    (case lV => k_is)
    (case cV => k_is)
    (case kV => k_is)
    (case aH => k_is)
    (case lH => k_is)
    (case cH => k_is)
    (case kH => k_is)
    (case aT => k_is)
    (case lT => k_is)
    (case cT => k_is)
    (case kT => k_is)
    (case aO => k_is)
    (case lO => k_is)
    (case cO => k_is)
    (case kO => k_is)
    (case aU => k_is)
    (case lU => k_is)
    (case cU => k_is)
    (case kU => k_is)
    (case aY => k_is)
    (case lY => k_is)
    (case cY => k_is)
    (case kY => k_is)
    (case aD => k_is)
    (case lD => k_is)
    (case cD => k_is)
    (case kD => k_is)
    (case aC => k_is)
    (case lC => k_is)
    (case cC => k_is)
    (case kC => k_is)
    (case aP => k_is)
    (case lP => k_is)
    (case cP => k_is)
    (case kP => k_is)
    (case aJ => k_is)
    (case lJ => k_is)
    (case cJ => k_is)
    (case kJ => k_is)
    (case aQ => k_is)
    (case lQ => k_is)
    (case cQ => k_is)
    (case kQ => k_is)
    (case aL => k_is)
    (case lL => k_is)
    (case cL => k_is)
    (case kL => k_is)
    (case z_len => k_is)
    (case z_abs => k_is)
    (case z_int => k_is)
    (case z_range => k_is)
    (case z_repr => k_is)
    (case z_max => k_is)
    (case z_min => k_is)
    (case z_all => k_is)
    (case z_ord => k_is)
    (case z_isinstance => k_is)
    (case z_str => k_is)
    (case z_bool => k_is)
    (case z_tuple => k_is)
    (case z_list => k_is)
    (case z_sorted => k_is)
    (case z_set => k_is)
    (case z_dict => k_is)
    (case z_any => k_is)
    (case z_zip => k_is)
    (case z_enumerate => k_is)
    (case rS => rfl)
    (case tlS => k_is)
    (case pvS => rfl)
    (case rI => rfl)
    (case tlI => k_is)
    (case pvI => rfl)
    (case rB => rfl)
    (case tlB => k_is)
    (case pvB => rfl)
    (case rV => rfl)
    (case tlV => k_is)
    (case pvV => rfl)
    (case nt => kernel_rfl)
