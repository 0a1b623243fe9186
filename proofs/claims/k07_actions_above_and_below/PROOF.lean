import PyProof.Rows.All
import Wide.All
import OpenK.AllK
import Wide.FinOn
import HandS.ForMost
import HandS.Wide
import HandS.Style
import HandS.TupAny
import PyProof.ReprRoads
import HandS.AnyAll
import HandS.EndTab
import HandS.FStrTup
import PyProof.GenCompT
import PyProof.WalksPairs
import PyProof.TupleOfGen
import HandS.SetFor
import HandS.SetTxt0
import HandS.Strs
import PyProof.DictCopy
import HandS.Walk
import KE.GoesMore
import HandS.Conv
import PySem.Challenge.RW_crossundo_k07_actions_above_and_below
set_option Elab.async false
set_option linter.all false
set_option maxRecDepth 100000
set_option maxHeartbeats 4000000
namespace Cu
open PySem PySem.Spec PyProof.Rows L2
/-- all but the object at a is as it was -/
def Upto (a : Addr) (H H' : Hp) : Prop := ∀ b o, b ≠ a → H b = some o → H' b = some o
theorem Upto.refl (a : Addr) (H : Hp) : Upto a H H := fun _ _ _ e => e
theorem Upto.trans {a : Addr} {H H1 H2 : Hp} (x : Upto a H H1) (y : Upto a H1 H2) : Upto a H H2 := fun b o n e => y b o n (x b o n e)
theorem Upto.of {a : Addr} {H H' : Hp} (x : Same H H') : Upto a H H' := fun b o _ e => x b o e
theorem Upto.upd {a : Addr} {H : Hp} {o : HO} : Upto a H (upd H a o) := fun b u n e => by rw [upd_ne n]; exact e
theorem same_upd {H : Hp} {p : Addr} {o : HO} (h : H p = none) : Same H (upd H p o) := fun b x e => by
  rw [upd_ne (ne_of_none e h)]
  exact e
theorem Upto.new {a p : Addr} {H : Hp} {o : HO} (h : H p = none) : Upto a H (L2.upd H p o) := .of (same_upd h)
theorem Upto.free {a l : Addr} {H H1 : Hp} (u : Upto a H H1) (n : l ≠ a) (e : H1 l = none) : H l = none := by
  cases h : H l with
  | none => rfl
  | some o =>
    rw [u l o n h] at e
    cases e
theorem Upto.put {a l : Addr} {H H2 : Hp} {o : HO} (u : Upto a H H2) (e : H l = none) : Upto a H (L2.upd H2 l o) := fun b x n eb => by
  rw [upd_ne (ne_of_none eb e)]
  exact u b x n eb
theorem Hand.ne {H : Hp} {a l : Addr} (h : ∃ o, H a = some o) (e : H l = none) : l ≠ a := fun z => by
  obtain ⟨o, eo⟩ := h
  rw [z, eo] at e
  cases e
theorem iffF {b : Bool} {A B : Prop} (h : b = false) (hB : B) : if b = true then A else B := by
  rw [h, if_neg Bool.false_ne_true]
  exact hB
theorem iffT {b : Bool} {A B : Prop} (h : b = true) (hA : A) : if b = true then A else B := by
  rw [h, if_pos rfl]
  exact hA
theorem ne_self (x : V) : (!decide (x = x)) = false := by
  rw [decide_eq_true rfl]
  rfl
theorem Upto.list {a l : Addr} {H H' : Hp} {xs : List V} (u : Upto a H H') (n : l ≠ a) (e : H l = some (.lst xs)) : H' l = some (.lst xs) := u l _ n e
/-- the hand: three ints; the third counts at most n draws -/
def Hand (H : Hp) (a : Addr) (n : Nat) : Prop := ∃ g x c : Int, H a = some (.lst [.int g, .int x, .int c]) ∧ 0 ≤ g ∧ g < 2 ^ 600 ∧ 0 ≤ x ∧ x < 2147483647 ∧ 0 ≤ c ∧ c ≤ n
theorem Hand.mono {H : Hp} {a : Addr} {n m : Nat} (h : Hand H a n) (l : n ≤ m) : Hand H a m := by
  obtain ⟨g, x, c, h1, h2, h3, h4, h5, h6, h7⟩ := h
  exact ⟨g, x, c, h1, h2, h3, h4, h5, h6, by omega⟩
theorem Hand.same {H H' : Hp} {a : Addr} {n : Nat} (h : Hand H a n) (s : Same H H') : Hand H' a n := by
  obtain ⟨g, x, c, h1, h2⟩ := h
  exact ⟨g, x, c, s _ _ h1, h2⟩
theorem Hand.at {H H' : Hp} {a : Addr} {n : Nat} (h : Hand H a n) (s : H' a = H a) : Hand H' a n := by
  obtain ⟨g, x, c, h1, h2⟩ := h
  exact ⟨g, x, c, s.trans h1, h2⟩
theorem Hand.some {H : Hp} {a : Addr} {n : Nat} (h : Hand H a n) : ∃ o, H a = some o := by
  obtain ⟨g, x, c, h1, h2⟩ := h
  exact ⟨_, h1⟩
theorem Hand.new {H : Hp} {a p : Addr} {o : HO} {n : Nat} (h : Hand H a n) (e : H p = none) : Hand (L2.upd H p o) a n := h.same (same_upd e)
section
variable {X : Cx}
/-- data that repr can show -/
structure Shw (d : PyData) : Prop where
  show_ : d.showable = true
  dict : d.hasDict = false
  dep : d.depth ≤ 60
  len : d.shown.length ≤ sizeLine
/-- repr(x) of data: None, bools, ints, texts, lists, tuples -/
def rReprD (K : PySem.W.Frag) : List V → Hp → VK → Prop := fun xs H Q => ∃ x d, xs = [x] ∧ Dp K H x d ∧ Shw d ∧ Q (.str d.shown) H
theorem call_reprD (hg : X.A.guards = some []) (hu : X.A.units + 64 < cLine) : CallR X (.builtin "repr") (rReprD X.K) := by
  intro pins s σ H xs us Q I r h
  obtain ⟨x, d, rfl, hd, ⟨hs, hn, h6, hz⟩, q⟩ := h
  obtain ⟨u, rfl, ru⟩ := vals1 r
  obtain ⟨as, rd⟩ := Dp.reads I d x u hd ru
  cases hd with
  | non =>
    cases ru
    exact PySem.P.repr_of_none ⟨.str _, H, I.tok _, ⟨_, rfl⟩, q⟩
  | bl b =>
    cases ru
    cases b
    · exact PySem.P.repr_of_bool ⟨.str _, H, I.tok _, ⟨_, rfl⟩, q⟩
    · exact PySem.P.repr_of_bool ⟨.str _, H, I.tok _, ⟨_, rfl⟩, q⟩
  | int i =>
    obtain ⟨t, rfl⟩ := ru
    refine PySem.P.repr_of_int ?_ ⟨.str _, H, I.tok _, ⟨_, rfl⟩, q⟩
    exact of_decide_eq_true hs
  | str y =>
    obtain ⟨t, rfl⟩ := ru
    exact PySem.P.repr_of_str ⟨.str _, H, I.tok _, ⟨_, rfl⟩, q⟩ hz
  | lst sq all =>
    obtain rfl : u = _ := ru
    exact repr_of_reads' rd hs (fun z => by rw [hn] at z; cases z) hg (by omega) (fun _ _ e => e) (fun h' t tk k => ⟨.str _, H, I.kept k, ⟨t, rfl⟩, q⟩) hz
  | tup sq all =>
    obtain rfl : u = _ := ru
    exact repr_of_reads' rd hs (fun z => by rw [hn] at z; cases z) hg (by omega) (fun _ _ e => e) (fun h' t tk k => ⟨.str _, H, I.kept k, ⟨t, rfl⟩, q⟩) hz
end
/-- a def's promise where no repr is under way -/
structure FnG (P : Program) (w : World) (K : PySem.W.Frag) (mg : Str → Option Value) (base : Heap) (CX : CXT) (k : Nat) (f : Addr) (fd : FuncData) (ps : List Str) (sp : Sp) : Prop where
  len : ∀ vs H Q E, sp vs H Q E → vs.length = ps.length
  run : ∀ (A : Around) (outer : List Env) (s : Shared) (H : Hp) (args : Args) (us : List Value) (vs : List V) (Q : VK) (E : XK), A.guards = some [] → Room k A → Env0 P w K mg base A outer s H →
    BindsTo s fd args (ps.zip us) → Vals vs us → sp vs H Q E → codeAny (model P w) A (.call (.ref f) args) (CR CX outer P w H s Q E) s
theorem FnG.of {P : Program} {w : World} {K : PySem.W.Frag} {mg : Str → Option Value} {base : Heap} {CX : CXT} {k : Nat} {f : Addr} {fd : FuncData} {ps : List Str} {sp : Sp} (F : FnOk P w K mg base CX k f fd ps sp) : FnG P w K mg base CX k f fd ps sp :=
  ⟨F.len, fun A outer s H args us vs Q E _ => F.run A outer s H args us vs Q E⟩
theorem FnG.mono {P : Program} {w : World} {K : PySem.W.Frag} {mg : Str → Option Value} {base : Heap} {CX : CXT} {j k : Nat} {f : Addr} {fd : FuncData} {ps : List Str} {sp : Sp} (F : FnG P w K mg base CX j f fd ps sp) (h : j ≤ k) : FnG P w K mg base CX k f fd ps sp :=
  ⟨F.len, fun A outer s H args us vs Q E g hr => F.run A outer s H args us vs Q E g (hr.mono h)⟩
section
variable {X : Cx} {CX : CXT} {k : Nat} {f : Addr} {fd : FuncData} {ps : List Str} {sp : Sp} {dvs : List V} {ds : List Value} {E : XK} {x : Str} {p pos : Pos} {e : Expr} {es : List Expr} {t : TA}
theorem pe_callG (F : FnG X.prog X.w X.K X.mg X.base CX k f fd ps sp) (gd : X.A.guards = some []) (hr : Room k X.A) (hg : Gl X x) (hm : X.mg x = some (.ref f)) (hk : PySem.W.keepIn X.K (.ref f) = true) (hb : Binds X.K fd ps ds) (hd : Vals dvs ds) (hx : Passes CX X E)
    (ha : PA X (e :: es) t) (hdb : (x == ("__debug__" : Str)) = false := by decide) (he : starEach (e :: es) X.env = (false, eval e X.env) :: starEach es X.env := by rfl) (hpl : (backTo pos (starEach es X.env)).any (·.1) = false := by rfl) :
    PE X (.Call (.Name x p) (e :: es) [] pos) (tCall sp dvs E t) := by
  constructor
  intro pins s σ H Q I h
  apply wpAny_Call_Name_kw
  apply ld_glob I hg hm _ hdb
  refine PySem.W.callWith_K (h₀ := X.base) I.ok.mod.kin hk (thn (ha.run pos pins s σ H _ I h) ?_) he hpl
  rintro us s1 ⟨vs, H1, I1, r, q⟩
  refine ⟨I1.kIn, ?_⟩
  have rr := r.append hd
  have ll : (us ++ ds).length = ps.length := rr.length.symm.trans (F.len _ _ _ _ q)
  apply wpAny_call
  refine codeAny_mono (F.run X.A X.stack s1 H1 ⟨us, []⟩ (us ++ ds) (vs ++ dvs) Q E gd hr I1.env0 (hb s1 us I1.kIn ll) rr q) ?_
  intro z s2 hz
  match z, hz with
  | .error er, hz => exact hx pins σ H1 s1 er s2 I1 hz
  | .ok (.ret u), hz => exact I1.after hz
  | .ok .next, hz => exact hz.elim
  | .ok .brk, hz => exact hz.elim
  | .ok .cont, hz => exact hz.elim
end

/-- a def by its body, where no repr is under way -/
theorem okG {P : Program} {w : World} {K : PySem.W.Frag} {mg : Str → Option Value} {base : Heap} {x qual : Str} {st : Stmt} {f : Addr} {fd : FuncData} {N ps : List Str} {k : Nat} {sp : Sp} (F : Fun K x qual st f fd) (S : FnScope N ps (defScope st)) (len : ∀ vs H Q E, sp vs H Q E → vs.length = ps.length)
    (hbody : ∀ (cdv : Value) (A : Around) (outer : List Env) (s : Shared) (H : Hp) (vs : List V) (Q : VK) (E : XK), (A.deeper (envOfC qual (defScope st) s.heap.objs.size f cdv)).guards = some [] → Room k (A.deeper (envOfC qual (defScope st) s.heap.objs.size f cdv)) → sp vs H Q E →
      ∃ t, PSs (cxOf CX0 P w K mg base N qual (defScope st) f cdv A outer s H E).nox (defBody st) t ∧ t { nx := fun _ H' => Q .non H', rt := Q } (start N vs) H) : FnG P w K mg base CX0 (k + 1) f fd ps sp := by
  obtain ⟨oc, od, kV, doc, pm, an, cdv, ct, osl, rfl, lk, hcd⟩ := F.ex
  constructor
  · exact len
  intro A outer s H args us vs Q E gd hr e0 hb r hsp
  have keep : ∀ b o, base.get? b = some o → s.heap.get? b = some o := fun b o e => (e0.bs b o e).1
  have kin := e0.mod.kin.keeps keep
  have par : ∀ y ∈ ps.zip us, (defScope st).names.lookup y.1 = some .local ∨ ((defScope st).names.lookup y.1 = some .cell ∧ ((cellsFrom (s.heap.objs.size + 1) (defScope st).names []).lookup y.1).isSome = true) := by
    intro y hy
    have mem : y.1 ∈ ps := (List.of_mem_zip (a := y.1) (b := y.2) hy).1
    cases S.par y.1 mem with
    | inl q => exact Or.inl q
    | inr q => exact Or.inr (And.intro q (PySem.W.cellsFrom_some _ _ _ (Or.inl q)))
  apply codeAny_call_function hr.depth (kin _ _ lk) rfl S.co S.gen rfl (PySem.W.codeRec_of kin hcd)
  apply hb
  apply wpAny_newFunctionEnv_cells S.kind par
  rintro env rfl s1 ic
  refine And.intro ((e0.mod.nolimit.keeps keep).keeps ic.toInCall.keep) (codeAny_func ?_)
  obtain ⟨t, ht, hq⟩ := hbody cdv A outer s H vs Q E gd (hr.deeper _) hsp
  have I0 := inv_start (CX := CX0) (qual := qual) (f := f) (cd := cdv) (E := E) S hr.hd e0 (len _ _ _ _ hsp) r ic
  refine wpAny_mono (ht.nox.run [] s1 _ H _ I0 hq) ?_ (fun _ _ z => z)
  intro fl s' hs
  match fl, hs with
  | .ret u, ⟨v, σ', H', J, rv, q⟩ => exact ⟨v, H', J.os, J.bare, J.base, J.hok, rv, q⟩
  | .next, ⟨σ', H', J, q⟩ => exact ⟨V.non, H', J.os, J.bare, J.base, J.hok, rfl, q⟩
  | .brk, ⟨_, _, _, q⟩ => exact q.elim
  | .cont, ⟨_, _, _, q⟩ => exact q.elim

section
variable {P : Program} {w : World} {K : PySem.W.Frag} {mg mb : Str → Option Value} {k : Nat} {fa a : Addr} {tb : List (Addr × Addr)} {fd : FuncData} {x : Str} {sp : Sp} {s1 : Shared} {vs : List Value} {ns : List Int}
/-- what is tracked when the law begins: its script s (unless the top owns it) and the tables -/
structure Begin (K : PySem.W.Frag) (h : Heap) (tabs : List Addr) (a : Addr) (vs : List Value) (ns : List Int) (H : Hp) : Prop where
  tabAt : ∀ b ∈ tabs, H b = some (.tbl #[])
  tabIs : ∀ b ∈ tabs, h.get? b = some { cls := .none, data := .fields #[] }
  tabK : ∀ b ∈ tabs, K.lookup b = none
  seq : SqL K H a (ns.map V.int)
  other : ∀ b, b ∉ tabs → b ≠ a → H b = none
  script : a ∉ tabs → H a = none ∨ (K.lookup a = none ∧ H a = some (.frz { cls := .type "list", data := .seq vs.toArray } (.lst (ns.map V.int))))
theorem Begin.kinds {H : Hp} {tabs : List Addr} {h : Heap} (B : Begin K h tabs a vs ns H) (b : Addr) : H b = none ∨ b ∈ tabs ∨ (b = a ∧ K.lookup a = none ∧ H b = some (.frz { cls := .type "list", data := .seq vs.toArray } (.lst (ns.map V.int)))) := by
  by_cases m : b ∈ tabs
  · exact .inr (.inl m)
  · by_cases e : b = a
    · subst e
      rcases B.script m with z | ⟨z1, z2⟩
      · exact .inl z
      · exact .inr (.inr ⟨rfl, z1, z2⟩)
    · exact .inl (B.other b m e)
/-- an object that is neither a table nor the script is not tracked -/
theorem Begin.out {H : Hp} {tabs : List Addr} {h : Heap} (B : Begin K h tabs a vs ns H) (ha : h.get? a = some { cls := .type "list", data := .seq vs.toArray }) {b : Addr} {o : Obj} (e : h.get? b = some o)
    (n1 : ∀ us n, o.data ≠ .seq us n) (n2 : o.data ≠ .fields #[]) : H b = none := by
  rcases B.kinds b with z | z | ⟨z, _⟩
  · exact z
  · have q := e.symm.trans (B.tabIs b z)
    cases q
    exact absurd rfl n2
  · subst z
    have q := e.symm.trans ha
    cases q
    exact absurd rfl (n1 _ _)
theorem Begin.run {H : Hp} (B : Begin K s1.heap (tb.map (·.2)) a vs ns H) (hok : HOk P w H s1.heap) (KX : K.In s1.heap) (hns : s1.heap.Ns mainGlobals mg) (hb : s1.heap.Ns builtinsNs mb) (hbb : ∀ x : Str, x ≠ "__name__" → mb x = bootBuiltins x)
    (hlim : s1.heap.NoLimit) (hg : s1.gens = #[]) (cds : ∀ p ∈ tb, PySem.W.CodeHd s1.heap p.1 p.2)
    (hbm : ∃ (bm : Addr) (ob : Obj), mg "__builtins__" = some (.ref bm) ∧ bm ≠ builtinsNs ∧ s1.heap.get? bm = some ob ∧ ob.cls = .type "module" ∧ ob.dict = some builtinsNs ∧ ob.data = .plain)
    (ha : s1.heap.get? a = some { cls := .type "list", data := .seq vs.toArray }) (hr : Room k callerA)
    (hsy : ∃ mm, s1.heap.Ns sysModules mm) (F : ∀ base : Heap, K.In base → base.Ns mainGlobals mg → (∀ p ∈ tb, GxR.TabB base mg p.1 p.2) → (∃ o, base.get? sysModules = some o) → FnG P w K mg base CX0 k fa fd [x] sp)
    (bind : ∀ (s : Shared) (u : Value), BindsTo s fd ⟨[u], []⟩ [(x, u)]) (want : sp [.ref a] H (fun v _ => v = .bl true) fun _ _ _ => False) :
    codeAny (model P w) callerA (.call (.ref fa) ⟨[.ref a], []⟩) (fun r s' => r = .ok (.ret (.bool true)) ∧ OldK s1.heap s'.heap ∧ s'.os = s1.os ∧ AllBare s'.gens) s1 := by
  have out := fun {b : Addr} {o : Obj} => B.out (b := b) (o := o) ha
  have low : ∀ {b : Addr} {o : Obj}, s1.heap.get? b = some o → H b = none → (hidT s1.heap H).get? b = some o := fun e n => hidT_get e n
  have lowNs : ∀ {b : Addr} {m : Str → Option Value}, s1.heap.Ns b m → (hidT s1.heap H).Ns b m := by
    rintro b m ⟨o, es, ep, e, d, r⟩
    refine ⟨o, es, ep, low e (out e ?_ ?_), d, r⟩
    · intro us n z
      cases d.symm.trans z
    · intro z
      cases d.symm.trans z
  have lowK : K.In (hidT s1.heap H) := by
    intro b o e
    refine low (KX b o e) ?_
    rcases B.kinds b with z | z | ⟨z1, z2, _⟩
    · exact z
    · cases (B.tabK b z).symm.trans e
    · subst z1
      cases z2.symm.trans e
  have lim : (hidT s1.heap H).NoLimit := by
    obtain ⟨mc, q1, q2⟩ := hlim
    exact ⟨mc, lowNs q1, q2⟩
  have tabs : ∀ p ∈ tb, GxR.TabB (hidT s1.heap H) mg p.1 p.2 := by
    intro p hp
    have isT := B.tabIs p.2 (List.mem_map.mpr ⟨p, hp, rfl⟩)
    constructor
    · obtain ⟨o, us, file, tf, flags, tg, inF, text, tt, e1, r1, r2, r3, rest⟩ := cds p hp
      refine ⟨o, us, file, tf, flags, tg, inF, text, tt, low e1 (out e1 ?_ ?_), r1, r2, r3, rest⟩
      · intro us n z
        cases r2.symm.trans z
      · intro z
        have z' := r2.symm.trans z
        cases z'
        simp at r3
    · obtain ⟨bm, ob, b1, b2, b3, b4, b5, b6⟩ := hbm
      refine ⟨bm, ob, b1, b2, ?_, ?_, low b3 (out b3 ?_ ?_), b4, b5, b6⟩
      · intro q
        obtain ⟨o, es, ep, e, hd, _⟩ := hns
        rw [← q, b3] at e
        cases e
        cases b6.symm.trans hd
      · intro q
        rw [q, isT] at b3
        cases b3
        cases b6
      · intro us n z
        cases b6.symm.trans z
      · intro z
        cases b6.symm.trans z
    · intro z
      obtain ⟨o, es, ep, e, hd, _⟩ := hns
      rw [z, isT] at e
      cases e
      cases hd
  have md : L2.Mod K mg (hidT s1.heap H) := ⟨lowK, lowNs hns, ⟨mb, lowNs hb, hbb⟩, lim⟩
  have env : Env0 P w K mg (hidT s1.heap H) callerA [] s1 H := by
    refine ⟨rfl, md, fun b o e => of_hidT e, Nat.le_of_eq (hidT_size _ _), trivial, ?_, hok, .of_eq hg⟩
    intro b z
    cases z
  have sysb : ∃ o, (hidT s1.heap H).get? sysModules = some o := by
    obtain ⟨mm, z⟩ := hsy
    obtain ⟨o, _, _, e, _⟩ := lowNs z
    exact ⟨o, e⟩
  have go := (F _ lowK (lowNs hns) tabs sysb).run callerA [] s1 H ⟨[.ref a], []⟩ [.ref a] [.ref a] _ _ rfl hr env (bind s1 (.ref a)) (.cons rfl .nil) want
  refine codeAny_mono go ?_
  intro r s' h
  match r, h with
  | .error e, h => exact False.elim h
  | .ok .next, h => exact h.elim
  | .ok .brk, h => exact h.elim
  | .ok .cont, h => exact h.elim
  | .ok (.ret u), ⟨v, H', os, bare, un, hok', rel, q⟩ =>
    cases q
    cases rel
    have stay : ∀ b o, b ∉ tb.map (·.2) → s1.heap.get? b = some o → s'.heap.get? b = some o := by
      intro b o nb e
      rcases B.kinds b with z | z | ⟨z1, _, z⟩
      · exact un.keep b o e z (by intro m; cases m) (by intro m; cases m)
      · exact absurd z nb
      · have e1 := (hok b _ z).1
        have e2 := (hok' b _ (un.frzs b _ _ z)).1
        rw [e] at e1
        cases e1
        exact e2
    have more : ∀ p ∈ tb, ∃ us : Array Value, s'.heap.get? p.2 = some { cls := .none, data := .fields us } := by
      intro p hp
      obtain ⟨us, z⟩ := un.tbls p.2 #[] (B.tabAt _ (List.mem_map.mpr ⟨p, hp, rfl⟩))
      exact ⟨_, hok' p.2 _ z⟩
    refine ⟨rfl, ⟨?_, ?_⟩, os, bare⟩
    · intro b o e
      by_cases m : b ∈ tb.map (·.2)
      · have isT := B.tabIs b m
        obtain ⟨p, hp, rfl⟩ := List.mem_map.mp m
        obtain ⟨us, hu⟩ := more p hp
        rw [isT] at e
        cases e
        refine .inr (.inl ⟨((cds p hp).tab isT).isCodeTable, rfl, #[], us, rfl, ?_⟩)
        rw [Array.empty_append]
        exact hu
      · exact .inl (stay b o m e)
    · intro b o e
      by_cases m : b ∈ tb.map (·.2)
      · obtain ⟨p, hp, rfl⟩ := List.mem_map.mp m
        obtain ⟨us, hu⟩ := more p hp
        exact ⟨_, hu⟩
      · exact ⟨o, stay b o m e⟩
/-- such a heap there is -/
theorem begin_ex (tabs : List Addr) (hT : ∀ b ∈ tabs, s1.heap.get? b = some { cls := .none, data := .fields #[] }) (nT : ∀ b ∈ tabs, K.lookup b = none) (KX : K.In s1.heap)
    (ha : s1.heap.get? a = some { cls := .type "list", data := .seq vs.toArray }) (hi : IntsAre vs ns) (hl : ns.length ≤ sizeLine) : ∃ H, Begin K s1.heap tabs a vs ns H ∧ HOk P w H s1.heap := by
  have na : a ∉ tabs := by
    intro m
    cases (hT a m).symm.trans ha
  by_cases hk : K.lookup a = none
  · let H : Hp := fun b => if b ∈ tabs then some (.tbl #[]) else if b = a then some (.frz { cls := .type "list", data := .seq vs.toArray } (.lst (ns.map V.int))) else none
    have atT : ∀ b ∈ tabs, H b = some (.tbl #[]) := fun b m => if_pos m
    have atA : H a = some (.frz { cls := .type "list", data := .seq vs.toArray } (.lst (ns.map V.int))) := (if_neg na).trans (if_pos rfl)
    have atN : ∀ b, b ∉ tabs → b ≠ a → H b = none := fun b m e => (if_neg m).trans (if_neg e)
    refine ⟨H, ⟨atT, hT, nT, .inl (.inr ⟨_, atA⟩), atN, fun _ => .inr ⟨hk, atA⟩⟩, ?_⟩
    intro b u z
    by_cases m : b ∈ tabs
    · cases (atT b m).symm.trans z
      exact hT b m
    · by_cases e : b = a
      · subst e
        cases atA.symm.trans z
        refine ⟨ha, ?_, vs, _, vals_ints hi, ha⟩
        rw [List.length_map]
        exact hl
      · cases (atN b m e).symm.trans z
  · obtain ⟨o, ho⟩ := Option.ne_none_iff_exists'.mp hk
    have e := KX a o ho
    rw [ha] at e
    cases e
    let H : Hp := fun b => if b ∈ tabs then some (.tbl #[]) else none
    have atT : ∀ b ∈ tabs, H b = some (.tbl #[]) := fun b m => if_pos m
    have atN : ∀ b, b ∉ tabs → H b = none := fun b m => if_neg m
    refine ⟨H, ⟨atT, hT, nT, .inr ⟨_, vs.toArray, _, ho, rfl, rfl, rfl, ?_, ?_⟩, fun b m _ => atN b m, fun _ => .inl (atN a na)⟩, ?_⟩
    · rw [List.size_toArray, hi.length]
      exact hl
    · simpa using vals_ints hi
    · intro b u z
      by_cases m : b ∈ tabs
      · cases (atT b m).symm.trans z
        exact hT b m
      · cases (atN b m).symm.trans z
end
/-- all that the end of a law asks of its promise -/
def LawG (l : PySem.W.OpenLaw) (w : World) (K : PySem.W.Frag) (k n : Nat) (x : Str) (mg : Str → Option Value) (fa : Addr) (h : Heap) : Prop :=
  ∃ (fd : FuncData) (tb : List (Addr × Addr)) (sp : Sp), (∀ p ∈ tb, h.get? p.2 = some { cls := .none, data := .fields #[] }) ∧ (∀ p ∈ tb, K.lookup p.2 = none) ∧ (∀ p ∈ tb, PySem.W.CodeHd h p.1 p.2) ∧
    (∀ (s : Shared) (u : Value), BindsTo s fd ⟨[u], []⟩ [(x, u)]) ∧
    (∀ (H : Hp) (a : Addr) (ns : List Int), ns.length ≤ n → (∀ p ∈ tb, H p.2 = some (.tbl #[])) → SqL K H a (ns.map V.int) → sp [.ref a] H (fun v _ => v = .bl true) fun _ _ _ => False) ∧
    ∀ base : Heap, K.In base → base.Ns mainGlobals mg → (∀ p ∈ tb, GxR.TabB base mg p.1 p.2) → (∃ o, base.get? sysModules = some o) → FnG l.prog w K mg base CX0 k fa fd [x] sp
theorem walkG {l : PySem.W.OpenLaw} {n k : Nat} {q : Program} {loose : List Str} {XP : (Str → Option Value) → Heap → Prop} {YP : World → Heap → Prop} {d : DefRec} {K : Params → PySem.W.Frag} {x : Str}
    (hn : l.most = some n) (hn2 : n ≤ sizeLine) (hdf : d.params.defaults = []) (hr : Room k callerA) (hY : ∀ (w : World) (h : Heap), YP w h → (K w.params).In h)
    (noImp : importsNone q = true) (F : ∀ (w : World) (mg mb : Str → Option Value) (mean : ExcName → Option Value) (fa : Addr) (h : Heap), Top q (PySem.W.looseW q loose) mean mg mb h → YP w h → (K w.params).In h → h.Ns mainGlobals mg → mg d.name = some (.ref fa) → LawG l w (K w.params) k n x mg fa h) :
    PySem.W.WalkO q loose XP YP l.row.toRowW d [] (fun f vs => PySem.call f vs) := by
  apply Att.attach_call hn hdf
  intro w s0 s1 mg mb fa o pm cd doc a vs ns G Y ho hd hcd hmg hobj hints hlen hg
  have KX := hY w _ Y
  obtain ⟨fd, tb, sp, hT, nT, C, hb, hsp, hF⟩ := F w mg mb _ fa _ G.T Y KX G.T.g hmg
  have hT' : ∀ b ∈ tb.map (·.2), s1.heap.get? b = some { cls := .none, data := .fields #[] } := by
    intro b m
    obtain ⟨p, hp, rfl⟩ := List.mem_map.mp m
    exact hT p hp
  have nT' : ∀ b ∈ tb.map (·.2), (K w.params).lookup b = none := by
    intro b m
    obtain ⟨p, hp, rfl⟩ := List.mem_map.mp m
    exact nT p hp
  obtain ⟨H, B, hok⟩ := begin_ex (P := l.prog) (w := w) (tb.map (·.2)) hT' nT' KX hobj hints (Nat.le_trans hlen hn2)
  exact B.run hok KX G.T.g G.T.b G.T.builtins G.T.nolimit hg C G.T.bmain hobj hr (let ⟨mm, z, _⟩ := (G.T.seer noImp).mods; ⟨mm, z⟩) hF hb (hsp H a ns hlen (fun p hp => B.tabAt _ (List.mem_map.mpr ⟨p, hp, rfl⟩)) B.seq)
/-- a if t else b, both of the kind D: what follows is shown once -/
theorem ifx {b : Bool} {ta : TE} {Q : VK} {σ : L2.St} {H : Hp} {v : V} (D : V → Prop) (hA : b = true → (∀ v, D v → Q v H) → ta σ H Q) (hv : D v) (all : ∀ v, D v → Q v H) : if b = true then ta σ H Q else tC v σ H Q := by
  by_cases h : b = true
  · rw [if_pos h]
    exact hA h all
  · rw [if_neg h]
    exact all v hv
theorem at_of {α : Type} {xs : List α} {i : Int} (h0 : 0 ≤ i) (h1 : i < xs.length) : ∃ v, xs[i.toNat]? = some v ∧ atI xs i = some v := by
  have hj : i.toNat < xs.length := by omega
  refine ⟨xs[i.toNat], List.getElem?_eq_getElem hj, ?_⟩
  have e := atI_nat (List.getElem?_eq_getElem hj)
  rwa [Int.toNat_of_nonneg h0] at e
theorem b01 (b : Bool) : -(2 ^ 64) < (if b = true then (1 : Int) else 0) ∧ (if b = true then (1 : Int) else 0) < 2 ^ 64 := by cases b <;> decide
theorem b01_mul (b : Bool) {x B : Int} (h0 : 0 ≤ x) (h1 : x < B) : 0 ≤ x * (if b = true then (1 : Int) else 0) ∧ x * (if b = true then (1 : Int) else 0) < B := by
  cases b
  · rw [if_neg Bool.false_ne_true, Int.mul_zero]
    omega
  · rw [if_pos rfl, Int.mul_one]
    omega
/-- a comprehension without a test -/
theorem lc_yes {σ : L2.St} {H : Hp} {A B : Hp → Prop} (h : A H) : tYes σ H fun b H3 => if b = true then A H3 else B H3 := by
  show (if true = true then A H else B H)
  rw [if_pos rfl]
  exact h
theorem same_put {H H2 : Hp} {l : Addr} {o : HO} (u : Same H H2) (e : H l = none) : Same H (L2.upd H2 l o) := fun b x eb => by
  rw [upd_ne (ne_of_none eb e)]
  exact u b x eb
theorem same_upto {a : Addr} {H H1 H2 : Hp} (s : Same H H1) (u : Upto a H1 H2) (e : H a = none) : Same H H2 := fun b x eb => u b x (ne_of_none eb e) (s b x eb)
end Cu

namespace Cu
open PySem PySem.Spec PyProof.Rows L2
/-! ### texts -/
abbrev tl (x : Str) : List Nat := x.cps.toList
def mkS (l : List Nat) : Str := ⟨l.toArray⟩
theorem tl_mk (l : List Nat) : tl (mkS l) = l := List.toList_toArray
theorem tl_len (x : Str) : (tl x).length = x.length := Array.length_toList
theorem ext_t {x y : Str} (h : tl x = tl y) : x = y := PyProof.Rows.ext_toList h
theorem tl_app (x y : Str) : tl (x ++ y) = tl x ++ tl y := TL.tl_append x y
theorem cut_both (z : Str) (i j : Nat) : tl (cutS z (some (i : Int)) (some (j : Int))) = ((tl z).drop i).take (j - i) := by
  show ((z.cps.toList.drop (HT.sIx z.length 0 (some (i : Int)))).take (HT.sIx z.length z.length (some (j : Int)) - HT.sIx z.length 0 (some (i : Int)))).toArray.toList = (z.cps.toList.drop i).take (j - i)
  rw [HT.sIx_nat, HT.sIx_nat, List.toList_toArray]
  have hl : z.cps.toList.length = z.length := Array.length_toList
  by_cases h : i ≤ z.length
  · rw [Nat.min_eq_left h]
    by_cases h2 : j ≤ z.length
    · rw [Nat.min_eq_left h2]
    · rw [Nat.min_eq_right (by omega), List.take_of_length_le (by rw [List.length_drop]; omega), List.take_of_length_le (by rw [List.length_drop]; omega)]
  · rw [Nat.min_eq_right (show z.length ≤ i by omega), List.drop_eq_nil_of_le (show z.cps.toList.length ≤ z.length by omega), List.drop_eq_nil_of_le (show z.cps.toList.length ≤ i by omega), List.take_nil, List.take_nil]
theorem cut_left (z : Str) (j : Nat) : tl (cutS z none (some (j : Int))) = (tl z).take j := by
  show ((z.cps.toList.drop (HT.sIx z.length 0 none)).take (HT.sIx z.length z.length (some (j : Int)) - HT.sIx z.length 0 none)).toArray.toList = z.cps.toList.take j
  rw [HT.sIx_nat, HT.sIx_none, List.toList_toArray, List.drop_zero, Nat.sub_zero]
  have hl : z.cps.toList.length = z.length := Array.length_toList
  by_cases h2 : j ≤ z.length
  · rw [Nat.min_eq_left h2]
  · rw [Nat.min_eq_right (by omega), List.take_of_length_le (by omega), List.take_of_length_le (by omega)]
theorem cut_right (z : Str) (i : Nat) : tl (cutS z (some (i : Int)) none) = (tl z).drop i := by
  show ((z.cps.toList.drop (HT.sIx z.length 0 (some (i : Int)))).take (HT.sIx z.length z.length none - HT.sIx z.length 0 (some (i : Int)))).toArray.toList = z.cps.toList.drop i
  rw [HT.sIx_nat, HT.sIx_none, List.toList_toArray]
  have hl : z.cps.toList.length = z.length := Array.length_toList
  by_cases h : i ≤ z.length
  · rw [Nat.min_eq_left h, List.take_of_length_le (by rw [List.length_drop]; omega)]
  · rw [Nat.min_eq_right (by omega), List.drop_eq_nil_of_le (by omega), List.drop_eq_nil_of_le (by omega), List.take_nil]
/-- all signs are ASCII -/
def Asc (z : Str) : Prop := ∀ c ∈ tl z, c < 128
theorem asc_of {x : Str} {l : List Nat} (h : ∀ c ∈ tl x, c ∈ l) (k : ∀ c ∈ l, c < 128) : Asc x := fun c m => k c (h c m)
theorem joinL_nil : ∀ ys : List (List Nat), TL.joinL [] ys = ys.flatten
  | [] => rfl
  | [p] => by simp [TL.joinL]
  | p :: q :: r => by
    show p ++ ([] ++ TL.joinL [] (q :: r)) = _
    rw [joinL_nil (q :: r), List.nil_append, List.flatten_cons (l := p)]
/-- ''.join(ys) -/
theorem tl_join0 (ys : List Str) : tl (Txt.join (Str.ofString "") ys) = (ys.map tl).flatten := by
  have e := TL.tl_join (Str.ofString "") ys
  rw [← TL.join_eq] at e
  rw [show tl (Txt.join (Str.ofString "") ys) = TL.joinL (TL.tl (Str.ofString "")) (ys.map TL.tl) from e]
  exact joinL_nil _
/-! ### data that can be shown -/
structure Good (n k : Nat) (d : PyData) : Prop where
  len : d.shown.length ≤ n
  dep : d.depth ≤ k
  show_ : d.showable = true
  dict : d.hasDict = false
theorem Good.mono {n k n' k' : Nat} {d : PyData} (g : Good n k d) (hn : n ≤ n') (hk : k ≤ k') : Good n' k' d := ⟨Nat.le_trans g.len hn, Nat.le_trans g.dep hk, g.show_, g.dict⟩
theorem good_none {n k : Nat} (h : 4 ≤ n) : Good n k .none := ⟨Nat.le_trans (by decide +kernel) h, by simp [PyData.depth], by simp [PyData.showable], by simp [PyData.hasDict]⟩
theorem good_bool {n k : Nat} (b : Bool) (h : 5 ≤ n) : Good n k (.bool b) := ⟨Nat.le_trans (by cases b <;> decide +kernel) h, by simp [PyData.depth], by simp [PyData.showable], by simp [PyData.hasDict]⟩
theorem good_int {n k : Nat} {i : Int} (h : i.natAbs.log2 < 1920) (hn : 2000 ≤ n) : Good n k (.int i) := by
  refine ⟨?_, by simp [PyData.depth], by simp [PyData.showable, h], by simp [PyData.hasDict]⟩
  have e := int_text_length_le (k := 1920) (by decide) h
  simp only [PyData.shown]
  rw [PySem.ofString_length]
  omega
theorem good_str {n k : Nat} {z : Str} (h : Asc z) (hn : 10 * z.length + 2 ≤ n) : Good n k (.str z) := by
  refine ⟨?_, by simp [PyData.depth], by simp [PyData.showable], by simp [PyData.hasDict]⟩
  simp only [PyData.shown]
  exact Nat.le_trans (StrLaws.reprText_len z fun c m => Nat.lt_trans (h c m) (by decide)) hn
theorem piled_le {n : Nat} : ∀ ds : List PyData, (∀ d ∈ ds, d.shown.length ≤ n) → piled (PyData.shownAll ds) ≤ (n + 2) * ds.length
  | [], _ => by simp [PyData.shownAll, piled]
  | d :: r, h => by
    have h1 := h d List.mem_cons_self
    have h2 := piled_le r fun z m => h z (List.mem_cons_of_mem _ m)
    simp only [PyData.shownAll]
    rw [piled_cons, List.length_cons, Nat.mul_succ]
    omega
theorem list_text (ts : List Str) : (listText ts).length ≤ piled ts + 2 := by
  cases ts with
  | nil => decide +kernel
  | cons t r =>
    have e := textFrom_length_pos r 1 (("[" : Str) ++ (if (0 : Nat) > 0 then ", " else "" : String) ++ t) (by decide)
    have e2 : (("[" : Str) ++ (if (0 : Nat) > 0 then ", " else "" : String) ++ t).length = 1 + t.length := by
      rw [strLen_append, strLen_append]
      rfl
    show (textFrom 1 _ r ++ Str.ofString "]").length ≤ _
    rw [strLen_append, e, e2, piled_cons]
    have e3 : (Str.ofString "]").length = 1 := rfl
    omega
theorem all_of {n k : Nat} : ∀ ds : List PyData, (∀ d ∈ ds, Good n k d) → PyData.depthAll ds ≤ k ∧ PyData.showableAll ds = true ∧ PyData.hasDictAll ds = false
  | [], _ => by simp [PyData.depthAll, PyData.showableAll, PyData.hasDictAll]
  | d :: r, h => by
    obtain ⟨h1, h2, h3⟩ := all_of r fun z m => h z (List.mem_cons_of_mem _ m)
    have g := h d List.mem_cons_self
    have g2 := g.dep
    simp only [PyData.depthAll, PyData.showableAll, PyData.hasDictAll, g.show_, g.dict, h2, h3, Bool.and_self, Bool.or_self, and_self, and_true]
    omega
theorem good_list {n k m : Nat} {ds : List PyData} (h : ∀ d ∈ ds, Good n k d) (hm : (n + 2) * ds.length + 2 ≤ m) : Good m (k + 1) (.list ds) := by
  obtain ⟨h1, h2, h3⟩ := all_of ds h
  have p := piled_le ds fun d z => (h d z).len
  have t := list_text (PyData.shownAll ds)
  refine ⟨?_, ?_, ?_, ?_⟩
  · simp only [PyData.shown]
    omega
  · simp only [PyData.depth]
    omega
  · simp only [PyData.showable]
    exact h2
  · simp only [PyData.hasDict]
    exact h3
theorem good_tup {n k m : Nat} {ds : List PyData} (h : ∀ d ∈ ds, Good n k d) (hm : (n + 2) * ds.length + 2 ≤ m) : Good m (k + 1) (.tuple ds) := by
  obtain ⟨h1, h2, h3⟩ := all_of ds h
  have p := piled_le ds fun d z => (h d z).len
  have t := fmt_text (PyData.shownAll ds)
  refine ⟨?_, ?_, ?_, ?_⟩
  · simp only [PyData.shown]
    omega
  · simp only [PyData.depth]
    omega
  · simp only [PyData.showable]
    exact h2
  · simp only [PyData.hasDict]
    exact h3
theorem Good.shw {n k : Nat} {d : PyData} (g : Good n k d) (hn : n ≤ 16000000 := by decide) (hk : k ≤ 60 := by decide) : Shw d := ⟨g.show_, g.dict, Nat.le_trans g.dep hk, Nat.le_trans (Nat.le_trans g.len hn) (by decide)⟩
end Cu

namespace Cu
open PySem PySem.Spec PyProof.Rows L2
/-! ### generator expressions whose element changes nothing -/
/-- what xv gives when it is walked from the state s1: n items, the i-th as Pf says; its walk leans on no table -/
def Src (prog : Program) (w : World) (P : Addr) (s1 : Shared) (xv : Value) (n : Nat) (Pf : Nat → Value → Prop) : Prop :=
  ∀ (A : Around) (E : Value → Shared → Prop) (Q : Value → Shared → Prop),
    (∀ (o : Obj) (fp : List Addr) (go : Nat → Heap → Prop), (∀ A' : Around, A'.handled = none → Walks prog w A' s1.heap.objs.size fp [s1.heap.objs.size] n Pf go) → go 0 (s1.heap.push o) → (∀ b ∈ fp, b ≤ s1.heap.objs.size ∧ b ≠ P) →
      Q (.ref s1.heap.objs.size) { s1 with heap := s1.heap.push o }) → A.handled = none → wpAny (model prog w) A (pyIter xv) Q E s1
theorem src_str {prog : Program} {w : World} {P : Addr} {s1 : Shared} {a : Str} {t : Tok} (hP : P < s1.heap.objs.size) : Src prog w P s1 (.str a t) a.cps.size (SignAt a) := by
  intro A E Q h hh
  apply wpAny_pyIter_str
  intro o go W st
  apply h o _ go W st
  intro b hb
  rcases List.mem_cons.mp hb with rfl | z
  · exact ⟨Nat.le_refl _, fun e => Nat.lt_irrefl _ (e ▸ hP)⟩
  · cases z
/-- the element, evaluated in the generator's own frame: it changes nothing and gives what F says -/
def Calm (X : Cx) (P : Addr) (scope : Scope) (x : Str) (elt : Expr) (s1 : Shared) (Pf F : Nat → Value → Prop) : Prop :=
  ∀ (cenv : Env) (A' : Around) (E' : Value → Shared → Prop) (i : Nat) (v : Value) (s2 : Shared) (m2 : Str → Option Value), cenv.scope = scope → cenv.globals = X.env.globals → cenv.builtins = builtinsNs → cenv.cells = cloFrom X.env.cells scope.names [] →
    A'.handled = none → Pf i v → s2.heap.Ns cenv.locals m2 → m2 x = some v → (∀ b u, b ≠ P → s1.heap.get? b = some u → s2.heap.get? b = some u) →
    wpAny (model X.prog X.w) A' (eval elt cenv) (fun y s3 => F i y ∧ Keeps s2 s3) E' s2
/-- the generator g is ready to be walked -/
def Set_ (X : Cx) (pins : List (Addr × Obj)) (σ : L2.St) (H1 : Hp) (P : Addr) (n : Nat) (F : Nat → Value → Prop) (g : Addr) (s5 : Shared) : Prop :=
  ∃ (fp wr : List Addr) (G : Array GenState → Array GenState → Prop) (go : Nat → Shared → Prop), WalksS X.prog X.w X.A.in1 g fp wr G n F go ∧ go 0 s5 ∧
    ∀ s', Moved wr G s5 s' → ∃ H2, GxR.Tabbed P H1 H2 ∧ Inv X pins σ H2 s'
theorem walksS_imp {prog : Program} {w : World} {A : Around} {I : Addr} {fp wr : List Addr} {G : Array GenState → Array GenState → Prop} {n : Nat} {F F' : Nat → Value → Prop} {go : Nat → Shared → Prop} (W : WalksS prog w A I fp wr G n F go) (h : ∀ j y, F j y → F' j y) :
    WalksS prog w A I fp wr G n F' go where
  sub := W.sub
  grefl := W.grefl
  gtrans := W.gtrans
  frame := W.frame
  item := fun i s Q E hi st q => W.item i s Q E hi st fun v s' hv => q v s' (h i v hv)
  done := W.done
  self := W.self
section
variable {X : Cx} {pins : List (Addr × Obj)} {σ : L2.St} {H : Hp} {s : Shared}
theorem gen_make {c P : Addr} {elt iter : Expr} {x : Str} {px gpos : Pos} {scope : Scope} {te : TE} {k : Nat} {Q' : Value → Shared → Prop} {R : V → Hp → Prop}
    (hr : Room k X.A) (TB : GxR.TabB X.base X.mg c P) (hcode : X.env.code = .ref c) (S : GxR.GenS X.env scope x) (hi : PE X iter te) (hs : ∀ v, genFold iter X.env v = pure v) (I : Inv X pins σ H s)
    (h : te σ H fun v H1 => GxR.TabG H1 P ∧ R v H1)
    (src : ∀ v H1 s1 u, R v H1 → GxR.TabG H1 P → Inv X pins σ H1 s1 → RelV v u → P < s1.heap.objs.size → ∃ n Pf F, Src X.prog X.w P s1 u n Pf ∧ Calm X P scope x elt s1 Pf F ∧ ∀ g s5, Set_ X pins σ H1 P n F g s5 → Q' (.ref g) s5) :
    wpAny (model X.prog X.w) X.A (eval (.GeneratorExp elt [⟨.Name x px, iter, [], 0⟩] scope gpos) X.env) Q' X.xe s := by
  have dp : X.A.depth < recursionLimit := by
    have := hr.dp
    omega
  apply wpAny_GeneratorExp_walksQ hr.hd S.co (closure_ok S.free) S.cell S.dot S.loc S.kind dp _ hs
  refine thn (hi.run pins s σ H _ I h) ?_
  rintro xv s1 ⟨v, H1, I1, r1, tab, hR⟩
  obtain ⟨ps, hP, tr⟩ := id tab
  have isP : s1.heap.get? P = some { cls := .none, data := .fields ps } := I1.hok P _ hP
  have ltP : P < s1.heap.objs.size := Heap.lt_size isP
  obtain ⟨n, Pf, F, sc, calm, fin⟩ := src v H1 s1 xv hR tab I1 r1 ltP
  apply sc _ _ _ _ hr.hd
  intro o fp go W st hfp
  have isP2 : (s1.heap.push o).get? P = some { cls := .none, data := .fields ps } := Heap.get?_push_of_some _ isP
  have cd : PySem.W.CodeHd (s1.heap.push o) c P := TB.code.keeps fun b u e => Heap.get?_push_of_some _ (I1.bk b u e)
  have lim2 := I1.nolimit.push o
  refine And.intro lim2 ?_
  -- behind the making of the code object
  have rest : ∀ (code : Value) (h3 : Heap) (tk : Nat) (qs : Array Value), Heap.ExtBut P (s1.heap.push o) h3 → (s1.heap.push o).objs.size ≤ h3.objs.size → h3.get? P = some { cls := .none, data := .fields qs } → (∃ more, qs = ps ++ more) → TriplesOk qs.toList →
      wpAny (model X.prog X.w) X.A (builtinsFor X.env.globals X.env.builtins) (fun bi s4 =>
        ∃ it fp wr n₀ Pf St₀ pz F, Value.ref s1.heap.objs.size = .ref it ∧ (∀ A' : Around, A'.handled = none → Walks X.prog X.w A' it fp wr n₀ Pf St₀) ∧ St₀ 0 s4.heap ∧ (∀ b ∈ fp, b < s4.heap.objs.size) ∧ s4.heap.NoLimit ∧ cStatics ∉ wr ∧
          (∀ href : Heap, (∀ b o, s4.heap.get? b = some o → href.get? b = some o) → QuietGen X.prog X.w (genEnv scope (cloFrom X.env.cells scope.names []) s4.heap.objs.size code bi X.env) x [] elt (List.range s4.heap.objs.size) wr Pf pz F href) ∧
          (∀ a h₅ tk gs, gs.bare = true → s4.heap.objs.size < a → h₅.objs.size = a + 1 → (∀ b o, s4.heap.get? b = some o → h₅.get? b = some o) →
            WalksS X.prog X.w X.A.in4 a (a :: s4.heap.objs.size :: List.range s4.heap.objs.size) (s4.heap.objs.size :: wr) (GenOnlyQ s4.gens.size) (passing pz n₀ 0).length
              (fun j y => ∃ i, (passing pz n₀ 0)[j]? = some i ∧ F i y) (GenAt X.prog X.w X.A.in4 a s4.gens.size s4.heap.objs.size (List.range s4.heap.objs.size) wr pz n₀ F) →
            GenAt X.prog X.w X.A.in4 a s4.gens.size s4.heap.objs.size (List.range s4.heap.objs.size) wr pz n₀ F 0 { s4 with gens := s4.gens.push gs, toks := tk, heap := h₅ } →
            Q' (.ref a) { s4 with gens := s4.gens.push gs, toks := tk, heap := h₅ })) X.xe { s1 with heap := h3, toks := tk } := by
    intro code h3 tk qs ex size isP3 grown tr3
    obtain ⟨bm, ob, b1, b2, b3, b4, b5, b6, b7, b8⟩ := TB.bm
    have old3 : ∀ b u, b ≠ P → s1.heap.get? b = some u → h3.get? b = some u := fun b u nb e => ex b u nb (Heap.get?_push_of_some _ e)
    have itlt : s1.heap.objs.size < h3.objs.size := by
      have q : (s1.heap.push o).objs.size = s1.heap.objs.size + 1 := Heap.size_push ..
      omega
    obtain ⟨mc, nsc, _⟩ := id I1.nolimit
    have ltc : cStatics < s1.heap.objs.size := nsc.lt
    have ncP : cStatics ≠ P := by
      intro e
      obtain ⟨o', es, ep, ho, hd, _⟩ := nsc
      rw [e, isP] at ho
      cases ho
      cases hd
    have gl : h3.Ns X.env.globals X.mg := by
      rw [I1.ok.glob]
      exact ((I1.mod.glob.keeps I1.bk).push o).extBut ex TB.gP
    apply wpAny_builtinsFor gl b1 b2 (old3 _ _ b4 (I1.bk _ _ b5)) b6 b7 b8
    refine ⟨s1.heap.objs.size, fp, [s1.heap.objs.size], n, Pf, go, (fun _ => true), F, rfl, W, ?_, ?_, lim2.extBut ex ncP, ?_, ?_, ?_⟩
    · exact (W X.A hr.hd).frame _ _ _ st fun b hb u e => ex b u (hfp b hb).2 e
    · intro b hb
      exact Nat.lt_of_le_of_lt (hfp b hb).1 itlt
    · intro z
      rcases List.mem_cons.mp z with z | z
      · exact Nat.ne_of_lt ltc z
      · cases z
    · intro href kept
      constructor
      · intro A' E' i v s2 m2 hA hPv hn hm hk
        simp only [List.forIn_nil]
        exact wpAny_pure ⟨rfl, GxR.keeps_refl _⟩
      · intro A' E' i v s2 m2 hA hPv hp hn hm hk
        refine calm _ A' E' i v s2 m2 rfl rfl rfl rfl hA hPv hn hm ?_
        intro b u nb e
        have l1 := Heap.lt_size e
        refine hk b (List.mem_range.mpr (Nat.lt_trans l1 itlt)) ?_ u (kept b u (old3 b u nb e))
        intro z
        rcases List.mem_cons.mp z with z | z
        · exact Nat.ne_of_lt l1 z
        · cases z
    · intro g h5 tk5 gs bare lt5 sz5 keep5 W5 at5
      simp only [GxR.passing_true, List.length_range] at W5
      refine fin g _ ⟨_, _, _, _, walksS_imp W5.in4_1 ?_, at5, ?_⟩
      · rintro j y ⟨i, hj, hF⟩
        obtain ⟨hlt, ej⟩ := List.getElem?_eq_some_iff.mp hj
        rw [List.getElem_range] at ej
        rw [ej]
        exact hF
      · intro s' mv
        obtain ⟨more, em⟩ := grown
        have out : ∀ b u, s1.heap.get? b = some u → b ∉ h3.objs.size :: [s1.heap.objs.size] := by
          intro b u e hb
          have l1 : b < s1.heap.objs.size := Heap.lt_size e
          rcases List.mem_cons.mp hb with z | z
          · exact Nat.lt_irrefl _ (Nat.lt_trans (z ▸ l1 : (h3.objs.size : Nat) < s1.heap.objs.size) itlt)
          · rcases List.mem_cons.mp z with z | z
            · exact Nat.ne_of_lt l1 z
            · cases z
        have other : ∀ b u, b ≠ P → s1.heap.get? b = some u → s'.heap.get? b = some u := fun b u nb e => mv.heap b u (out b u e) (keep5 b u (old3 b u nb e))
        have tabNow : s'.heap.get? P = some { cls := .none, data := .fields (ps ++ more) } := by
          rw [← em]
          exact mv.heap P _ (out P _ isP) (keep5 P _ isP3)
        have J := GxR.inv_tab (more := more) (h' := s'.heap) (g' := s'.gens) (d' := s'.drawn) (t' := s'.toks) I1 hP other tabNow (AllBare.movedS (I1.bare.push bare) mv)
        rw [GxR.sh_eta s1 s' mv.os] at J
        refine ⟨upd H1 P (.tbl (ps ++ more)), ⟨⟨ps ++ more, upd_same, ?_⟩, fun b nb => upd_ne nb⟩, J⟩
        rw [← em]
        exact tr3
  cases hit : codeAmong gpos ps.toList with
  | none =>
    apply wpAny_genexprCodeX hcode (cd.code isP2 tr) (cd.tab isP2) hit
    intro c' h' tk ex ge lt co' _ tab' _
    obtain ⟨o1, vs, f1, tf, fl, tg, inF, tx, tt, op, _, _, _, _, _, _, _, _, _, tr', _⟩ := co'
    exact rest _ h' tk _ ex (Nat.le_trans ge (Nat.le_of_lt lt)) tab'.2 ⟨_, rfl⟩ tr'
  | some cv =>
    apply wpAny_genexprCode_hit hcode (cd.code isP2 tr) hit
    exact rest cv (s1.heap.push o) s1.toks ps (Heap.ExtBut.refl _ _) (Nat.le_refl _) isP2 ⟨#[], by simp⟩ tr
/-- all(test for x in iter): the test of the i-th item is tr i -/
def tAllG (P : Addr) (te : TE) (R : V → Hp → Nat → (Nat → Bool) → Prop) : TE := fun σ H Q => te σ H fun v H1 => GxR.TabG H1 P ∧ ∃ n tr, R v H1 n tr ∧ ∀ H2, GxR.Tabbed P H1 H2 → Q (.bl ((List.range n).all tr)) H2
/-- what a rule for all(..) asks of the walked thing and the element -/
def GenR (X : Cx) (P : Addr) (scope : Scope) (x : Str) (elt : Expr) (R : V → Hp → Nat → (Nat → Bool) → Prop) : Prop :=
  ∀ pins σ v H1 s1 u n tr, R v H1 n tr → GxR.TabG H1 P → Inv X pins σ H1 s1 → RelV v u → P < s1.heap.objs.size → ∃ Pf F, Src X.prog X.w P s1 u n Pf ∧ Calm X P scope x elt s1 Pf F ∧ TruthOf X.prog X.w X.A.in1 F tr
theorem pe_allG {c P : Addr} {elt iter : Expr} {x : Str} {px p pos gpos : Pos} {scope : Scope} {te : TE} {k : Nat} {R : V → Hp → Nat → (Nat → Bool) → Prop}
    (hr : Room k X.A) (hg : Gl X "all") (hm : X.mg "all" = none) (TB : GxR.TabB X.base X.mg c P) (hcode : X.env.code = .ref c) (S : GxR.GenS X.env scope x) (hi : PE X iter te) (rule : GenR X P scope x elt R)
    (hs : ∀ v, genFold iter X.env v = pure v := by intro _; rfl)
    (he : starEach [.GeneratorExp elt [⟨.Name x px, iter, [], 0⟩] scope gpos] X.env = (false, eval (.GeneratorExp elt [⟨.Name x px, iter, [], 0⟩] scope gpos) X.env) :: starEach [] X.env := by rfl) :
    PE X (.Call (.Name "all" p) [.GeneratorExp elt [⟨.Name x px, iter, [], 0⟩] scope gpos] [] pos) (tAllG P te R) := by
  constructor
  intro pins s σ H Q I h
  apply wpAny_Call_Name_kw
  apply ld_blt I hg hm (show bootBuiltins "all" = some (.builtin "all") by decide +kernel)
  apply PyProof.Rows.callWith_builtin1 _ he (by rfl)
  rw [he]
  show wpAny _ _ (spliced ((false, eval (.GeneratorExp elt [⟨.Name x px, iter, [], 0⟩] scope gpos) X.env) :: backTo pos (starEach [] X.env))) _ _ s
  apply Calls.spliced_cons
  apply gen_make (R := fun v H1 => ∃ n tr, R v H1 n tr ∧ ∀ H2, GxR.Tabbed P H1 H2 → Q (.bl ((List.range n).all tr)) H2) hr TB hcode S hi hs I h
  rintro v H1 s1 u ⟨n, tr, hR, q⟩ tab I1 ru ltP
  obtain ⟨Pf, F, sc, calm, tru⟩ := rule pins σ v H1 s1 u n tr hR tab I1 ru ltP
  refine ⟨n, Pf, F, sc, calm, ?_⟩
  rintro g s5 ⟨fp, wr, G, go, W, st, inv⟩
  apply Calls.spliced_nil
  apply call_all_walkS
  apply W.self 0 _ _ _ st
  refine ⟨g, fp, wr, G, n, F, go, tr, rfl, W, st, tru, ?_⟩
  intro s' mv
  obtain ⟨H2, tb, J⟩ := inv s' mv
  exact ⟨.bl _, H2, J, rfl, q H2 tb⟩
end
end Cu

namespace Cu
open PySem PySem.Spec PyProof.Rows L2
/-! ### data with dicts -/
def keyD : Key → PyData
  | .inl i => .int i
  | .inr x => .str x
mutual
inductive Dx (H : Hp) : V → PyData → Prop
  | non : Dx H .non .none
  | bl (b : Bool) : Dx H (.bl b) (.bool b)
  | int (i : Int) : Dx H (.int i) (.int i)
  | str (x : Str) : Dx H (.str x) (.str x)
  | lst {a : Addr} {xs : List V} {ds : List PyData} (e : H a = some (.lst xs)) (k : DxAll H xs ds) : Dx H (.ref a) (.list ds)
  | tup {a : Addr} {xs : List V} {ds : List PyData} (e : H a = some (.tup xs)) (k : DxAll H xs ds) : Dx H (.ref a) (.tuple ds)
  | dct {a : Addr} {kvs : List (Key × V)} {ds : List (PyData × PyData)} (e : H a = some (.dK kvs)) (k : DxKv H kvs ds) : Dx H (.ref a) (.dict ds)
inductive DxAll (H : Hp) : List V → List PyData → Prop
  | nil : DxAll H [] []
  | cons {v : V} {vs : List V} {d : PyData} {ds : List PyData} (h : Dx H v d) (t : DxAll H vs ds) : DxAll H (v :: vs) (d :: ds)
inductive DxKv (H : Hp) : List (Key × V) → List (PyData × PyData) → Prop
  | nil : DxKv H [] []
  | cons {k : Key} {v : V} {r : List (Key × V)} {d : PyData} {ds : List (PyData × PyData)} (h : Dx H v d) (t : DxKv H r ds) : DxKv H ((k, v) :: r) ((keyD k, d) :: ds)
end
/-- what the relation leans on stays -/
def Stays (H H' : Hp) : Prop := ∀ b o, H b = some o → (∃ xs, o = .lst xs) ∨ (∃ xs, o = .tup xs) ∨ (∃ kvs, o = .dK kvs) → H' b = some o
mutual
theorem Dx.stays {H H' : Hp} (s : Stays H H') : ∀ (d : PyData) (v : V), Dx H v d → Dx H' v d
  | .none, _, h => by
    cases h
    exact .non
  | .bool b, _, h => by
    cases h
    exact .bl b
  | .int i, _, h => by
    cases h
    exact .int i
  | .str x, _, h => by
    cases h
    exact .str x
  | .list ds, _, h => by
    cases h with
    | lst e k => exact .lst (s _ _ e (.inl ⟨_, rfl⟩)) (DxAll.stays s ds _ k)
  | .tuple ds, _, h => by
    cases h with
    | tup e k => exact .tup (s _ _ e (.inr (.inl ⟨_, rfl⟩))) (DxAll.stays s ds _ k)
  | .dict ds, _, h => by
    cases h with
    | dct e k => exact .dct (s _ _ e (.inr (.inr ⟨_, rfl⟩))) (DxKv.stays s ds _ k)
theorem DxAll.stays {H H' : Hp} (s : Stays H H') : ∀ (ds : List PyData) (vs : List V), DxAll H vs ds → DxAll H' vs ds
  | [], _, h => by
    cases h
    exact .nil
  | d :: ds, _, h => by
    cases h with
    | cons h t => exact .cons (Dx.stays s d _ h) (DxAll.stays s ds _ t)
theorem DxKv.stays {H H' : Hp} (s : Stays H H') : ∀ (ds : List (PyData × PyData)) (vs : List (Key × V)), DxKv H vs ds → DxKv H' vs ds
  | [], _, h => by
    cases h
    exact .nil
  | (_, d) :: ds, _, h => by
    cases h with
    | cons h t => exact .cons (Dx.stays s d _ h) (DxKv.stays s ds _ t)
end
section
variable {X : Cx} {pins : List (Addr × Obj)} {σ : L2.St} {H : Hp} {s : Shared}
theorem not_sys (sy : ∃ o, X.base.get? sysModules = some o) (I : Inv X pins σ H s) {a : Addr} {o : HO} (e : H a = some o) : sysModules ≠ a := by
  intro z
  obtain ⟨ob, eb⟩ := sy
  have n := (I.bs _ _ eb).2
  rw [z, e] at n
  cases n
theorem keys_read {h : Heap} : ∀ (ds : List (PyData × PyData)) {es : List DictEntry} {kvs : List (Key × V)} {vs : List (Key × Value)}, Pairs (mixKind X.prog X.w) es vs → KV kvs vs → DxKv H kvs ds → ReadsAll h (es.map (·.key)) (ds.map (·.1)) []
  | [], _, _, _, p, r, d => by
    cases d
    cases r
    cases p
    exact .nil
  | (_, _) :: ds, _, _, _, p, r, d => by
    cases d with
    | @cons k _ _ _ _ h6 h7 =>
      cases r with
      | cons h4 h5 =>
        cases p with
        | @cons e _ _ _ h1 h2 h3 =>
          have q := keys_read (h := h) ds h3 h5 h7
          have ek : keyIs k e.key = true := by
            have z := h1
            rw [← h4.1] at z
            exact z
          rcases keyIs_shape ek with ⟨i, t, rfl, e2⟩ | ⟨x, t, rfl, e2⟩
          · rw [List.map_cons, List.map_cons, e2]
            exact ReadsAll.cons (as := []) (Reads.int i t) q
          · rw [List.map_cons, List.map_cons, e2]
            exact ReadsAll.cons (as := []) (Reads.str x t) q
mutual
theorem Dx.reads (sy : ∃ o, X.base.get? sysModules = some o) (I : Inv X pins σ H s) : ∀ (d : PyData) (v : V) (u : Value), Dx H v d → RelV v u → ∃ as, Reads s.heap u d as ∧ sysModules ∉ as
  | .none, _, _, h, r => by
    cases h
    cases r
    exact ⟨_, Reads.none, fun z => (nomatch z)⟩
  | .bool b, _, _, h, r => by
    cases h
    cases r
    exact ⟨_, Reads.bool b, fun z => (nomatch z)⟩
  | .int i, _, _, h, r => by
    cases h
    obtain ⟨t, rfl⟩ := r
    exact ⟨_, Reads.int i t, fun z => (nomatch z)⟩
  | .str x, _, _, h, r => by
    cases h
    obtain ⟨t, rfl⟩ := r
    exact ⟨_, Reads.str x t, fun z => (nomatch z)⟩
  | .list ds, _, _, h, r => by
    cases h with
    | lst e k =>
      cases r
      obtain ⟨_, its, n, rv, eo⟩ := I.hok _ _ e
      obtain ⟨as, hr, hn⟩ := DxAll.reads sy I ds _ its k rv
      refine ⟨_, Reads.list eo rfl rfl (by rw [List.toList_toArray]; exact hr), fun z => ?_⟩
      rcases List.mem_cons.mp z with z | z
      · exact not_sys sy I e z
      · exact hn z
  | .tuple ds, _, _, h, r => by
    cases h with
    | tup e k =>
      cases r
      obtain ⟨_, its, rv, o, ho, hc, n, hd⟩ := I.hok _ _ e
      obtain ⟨as, hr, hn⟩ := DxAll.reads sy I ds _ its k rv
      exact ⟨_, Reads.tuple ho hc hd (by rw [List.toList_toArray]; exact hr), hn⟩
  | .dict ds, _, _, h, r => by
    cases h with
    | dct e k =>
      cases r
      obtain ⟨_, _, vs, kv, o, es, ep, ho, hx, hd, hk, hp, _⟩ := I.hok _ _ e
      obtain ⟨bs, hr, hn⟩ := DxKv.reads sy I ds _ vs es.toList k kv hp
      refine ⟨_, Reads.dict (as := []) ho hx.1 hd (keys_read ds hp kv k) hr, fun z => ?_⟩
      rcases List.mem_append.mp z with z | z
      · rcases List.mem_cons.mp z with z | z
        · exact not_sys sy I e z
        · cases z
      · exact hn z
theorem DxAll.reads (sy : ∃ o, X.base.get? sysModules = some o) (I : Inv X pins σ H s) : ∀ (ds : List PyData) (vs : List V) (us : List Value), DxAll H vs ds → Vals vs us → ∃ as, ReadsAll s.heap us ds as ∧ sysModules ∉ as
  | [], _, _, h, r => by
    cases h
    cases r
    exact ⟨_, ReadsAll.nil, fun z => (nomatch z)⟩
  | d :: ds, _, _, h, r => by
    cases h with
    | cons h1 h2 =>
      cases r with
      | cons r1 r2 =>
        obtain ⟨as, q1, n1⟩ := Dx.reads sy I d _ _ h1 r1
        obtain ⟨bs, q2, n2⟩ := DxAll.reads sy I ds _ _ h2 r2
        exact ⟨_, ReadsAll.cons q1 q2, fun z => (List.mem_append.mp z).elim n1 n2⟩
theorem DxKv.reads (sy : ∃ o, X.base.get? sysModules = some o) (I : Inv X pins σ H s) : ∀ (ds : List (PyData × PyData)) (kvs : List (Key × V)) (vs : List (Key × Value)) (es : List DictEntry), DxKv H kvs ds → KV kvs vs → Pairs (mixKind X.prog X.w) es vs →
    ∃ as, ReadsAll s.heap (es.map (·.val)) (ds.map (·.2)) as ∧ sysModules ∉ as
  | [], _, _, _, h, r, p => by
    cases h
    cases r
    cases p
    exact ⟨_, ReadsAll.nil, fun z => (nomatch z)⟩
  | (_, d) :: ds, _, _, _, h, r, p => by
    cases h with
    | cons h1 h2 =>
      cases r with
      | cons r1 r2 =>
        cases p with
        | cons p1 p2 p3 =>
          obtain ⟨bs, q2, n2⟩ := DxKv.reads sy I ds _ _ _ h2 r2 p3
          obtain ⟨as, q1, n1⟩ := Dx.reads sy I d _ _ h1 r1.2
          refine ⟨_, ReadsAll.cons (as := as) ?_ q2, fun z => (List.mem_append.mp z).elim n1 n2⟩
          show Reads s.heap _ d as
          dsimp only
          rw [p2]
          exact q1
end
end
/-- data that repr can show, dicts too -/
structure Shx (d : PyData) : Prop where
  show_ : d.showable = true
  dep : d.depth ≤ 60
  len : d.shown.length ≤ sizeLine
def rReprX : List V → Hp → VK → Prop := fun xs H Q => ∃ x d, xs = [x] ∧ Dx H x d ∧ Shx d ∧ Q (.str d.shown) H
theorem call_reprX {X : Cx} (sy : ∃ o, X.base.get? sysModules = some o) (hg : X.A.guards = some []) (hu : X.A.units + 64 < cLine) : CallR X (.builtin "repr") rReprX := by
  intro pins s σ H xs us Q I r h
  obtain ⟨x, d, rfl, hd, ⟨hs, h6, hz⟩, q⟩ := h
  obtain ⟨u, rfl, ru⟩ := vals1 r
  obtain ⟨as, rd, ns⟩ := Dx.reads sy I d x u hd ru
  have fin : ∀ a, u = .ref a → wpAny (model X.prog X.w) X.A (call (.builtin "repr") [u]) (EP X pins σ Q) X.xe s := by
    rintro a rfl
    exact repr_of_reads' rd hs (fun _ => ns) hg (by omega) (fun _ _ e => e) (fun h' t tk k => ⟨.str _, H, I.kept k, ⟨t, rfl⟩, q⟩) hz
  cases hd with
  | non =>
    cases ru
    exact PySem.P.repr_of_none ⟨.str _, H, I.tok _, ⟨_, rfl⟩, q⟩
  | bl b =>
    cases ru
    cases b
    · exact PySem.P.repr_of_bool ⟨.str _, H, I.tok _, ⟨_, rfl⟩, q⟩
    · exact PySem.P.repr_of_bool ⟨.str _, H, I.tok _, ⟨_, rfl⟩, q⟩
  | int i =>
    obtain ⟨t, rfl⟩ := ru
    refine PySem.P.repr_of_int ?_ ⟨.str _, H, I.tok _, ⟨_, rfl⟩, q⟩
    exact of_decide_eq_true hs
  | str y =>
    obtain ⟨t, rfl⟩ := ru
    exact PySem.P.repr_of_str ⟨.str _, H, I.tok _, ⟨_, rfl⟩, q⟩ hz
  | lst _ _ => exact fin _ ru
  | tup _ _ => exact fin _ ru
  | dct _ _ => exact fin _ ru
/-- bounds of what is shown -/
structure Gx (n k : Nat) (d : PyData) : Prop where
  len : d.shown.length ≤ n
  dep : d.depth ≤ k
  show_ : d.showable = true
theorem Gx.shx {n k : Nat} {d : PyData} (g : Gx n k d) (hn : n ≤ 16000000 := by decide) (hk : k ≤ 60 := by decide) : Shx d := ⟨g.show_, Nat.le_trans g.dep hk, Nat.le_trans (Nat.le_trans g.len hn) (by decide)⟩
theorem Gx.mono {n k n' k' : Nat} {d : PyData} (g : Gx n k d) (hn : n ≤ n') (hk : k ≤ k') : Gx n' k' d := ⟨Nat.le_trans g.len hn, Nat.le_trans g.dep hk, g.show_⟩
theorem Good.gx {n k : Nat} {d : PyData} (g : Good n k d) : Gx n k d := ⟨g.len, g.dep, g.show_⟩
theorem gx_all {n k : Nat} : ∀ ds : List PyData, (∀ d ∈ ds, Gx n k d) → PyData.depthAll ds ≤ k ∧ PyData.showableAll ds = true
  | [], _ => by simp [PyData.depthAll, PyData.showableAll]
  | d :: r, h => by
    obtain ⟨h1, h2⟩ := gx_all r fun z m => h z (List.mem_cons_of_mem _ m)
    have g := h d List.mem_cons_self
    have g2 := g.dep
    simp only [PyData.depthAll, PyData.showableAll, g.show_, h2, Bool.and_self, and_true]
    omega
theorem gx_list {n k m : Nat} {ds : List PyData} (h : ∀ d ∈ ds, Gx n k d) (hm : (n + 2) * ds.length + 2 ≤ m) : Gx m (k + 1) (.list ds) := by
  obtain ⟨h1, h2⟩ := gx_all ds h
  have p := piled_le ds fun d z => (h d z).len
  have t := list_text (PyData.shownAll ds)
  refine ⟨?_, ?_, ?_⟩
  · simp only [PyData.shown]
    omega
  · simp only [PyData.depth]
    omega
  · simp only [PyData.showable]
    exact h2
theorem gx_tup {n k m : Nat} {ds : List PyData} (h : ∀ d ∈ ds, Gx n k d) (hm : (n + 2) * ds.length + 2 ≤ m) : Gx m (k + 1) (.tuple ds) := by
  obtain ⟨h1, h2⟩ := gx_all ds h
  have p := piled_le ds fun d z => (h d z).len
  have t := fmt_text (PyData.shownAll ds)
  refine ⟨?_, ?_, ?_⟩
  · simp only [PyData.shown]
    omega
  · simp only [PyData.depth]
    omega
  · simp only [PyData.showable]
    exact h2
/-! ### a def by its body, its code object known -/
theorem okC {P : Program} {w : World} {K : PySem.W.Frag} {mg : Str → Option Value} {base : Heap} {x qual : Str} {st : Stmt} {f c : Addr} {fd : FuncData} {N ps : List Str} {k : Nat} {sp : Sp} (F : Fun K x qual st f fd) (hc : fd.code = .ref c) (S : FnScope N ps (defScope st)) (len : ∀ vs H Q E, sp vs H Q E → vs.length = ps.length)
    (hbody : ∀ (A : Around) (outer : List Env) (s : Shared) (H : Hp) (vs : List V) (Q : VK) (E : XK), Room k (A.deeper (envOfC qual (defScope st) s.heap.objs.size f (.ref c))) → sp vs H Q E →
      ∃ t, PSs (cxOf CX0 P w K mg base N qual (defScope st) f (.ref c) A outer s H E).nox (defBody st) t ∧ t { nx := fun _ H' => Q .non H', rt := Q } (start N vs) H) : FnOk P w K mg base CX0 (k + 1) f fd ps sp := by
  obtain ⟨oc, od, kV, doc, pm, an, cdv, ct, osl, rfl, lk, hcd⟩ := F.ex
  have e : cdv = .ref c := hc
  subst e
  refine fn_of lk hcd S len ?_
  intro A outer s H vs Q E hr hsp
  obtain ⟨t, h, q⟩ := hbody A outer s H vs Q E hr hsp
  exact ⟨t, h.nox, q⟩
theorem code_of {K : PySem.W.Frag} {x : Str} {f c P : Addr} {oc : Value} {od : Option Addr} {fd : FuncData} {sl : Array (Option Value)} (a : PySem.W.nsIn K mainGlobals x = some (some (.ref f))) (l : K.lookup f = some ⟨oc, od, .func fd, sl⟩) (ht : PySem.W.tabIn K x = some (c, P)) : fd.code = .ref c := by
  unfold PySem.W.tabIn at ht
  rw [a] at ht
  dsimp only at ht
  rw [l] at ht
  dsimp only at ht
  split at ht
  · rename_i c' hc
    split at ht
    · split at ht
      · cases Option.some.inj ht
        exact hc
      · cases ht
    · cases ht
  · cases ht
theorem out_of_K {K : PySem.W.Frag} {h : Heap} {P : Addr} (X : K.In h) (nt : PySem.W.noTabs K = true) (e : h.get? P = some (PySem.W.tabObj #[])) : K.lookup P = none := by
  cases q : K.lookup P with
  | none => rfl
  | some o =>
    have e2 := X P o q
    rw [e] at e2
    cases e2
    have e3 := List.all_eq_true.mp nt _ (PySem.W.mem_of_lookupK q)
    exact absurd (show false = true from e3) Bool.false_ne_true
end Cu

namespace Cu
open PySem PySem.Spec PyProof.Rows L2
/-! ### all(test for x in text) -/
def RText (pb : Nat → Bool) : V → Hp → Nat → (Nat → Bool) → Prop := fun v _ n tr => ∃ a : Str, v = .str a ∧ n = a.cps.size ∧ tr = GxR.trF pb a.cps.toList
/-- what the generator's frame knows of the module -/
structure Around1 (X : Cx) (cenv : Env) (h : Heap) : Prop where
  gl : h.Ns cenv.globals X.mg
  bl : ∃ mb, h.Ns cenv.builtins mb ∧ ∀ x : Str, x ≠ "__name__" → mb x = bootBuiltins x
/-- the element is a test of the sign -/
def SignTest (X : Cx) (scope : Scope) (x : Str) (elt : Expr) (pb : Nat → Bool) : Prop :=
  ∀ (cenv : Env) (A' : Around) (E' : Value → Shared → Prop) (c : Nat) (t : Tok) (s2 : Shared) (m2 : Str → Option Value), cenv.scope = scope → A'.handled = none → Around1 X cenv s2.heap → s2.heap.Ns cenv.locals m2 → m2 x = some (.str ⟨#[c]⟩ t) →
    wpAny (model X.prog X.w) A' (eval elt cenv) (fun y s3 => y = .bool (pb c) ∧ Keeps s2 s3) E' s2
theorem genR_text {X : Cx} {P : Addr} {scope : Scope} {x : Str} {elt : Expr} {pb : Nat → Bool} (hel : SignTest X scope x elt pb) : GenR X P scope x elt (RText pb) := by
  rintro pins σ v H1 s1 u n tr ⟨a, rfl, rfl, rfl⟩ ⟨ps, hP, _⟩ I ru ltP
  obtain ⟨t, rfl⟩ := ru
  refine ⟨SignAt a, fun i y => ∃ c, a.cps[i]? = some c ∧ y = .bool (pb c), src_str ltP, ?_, ?_⟩
  · intro cenv A' E' i v s2 m2 e1 e2 e3 e4 hh hv hn hm keep
    obtain ⟨c, t, hc, rfl⟩ := hv
    have kb : ∀ b u, X.base.get? b = some u → s2.heap.get? b = some u := by
      intro b u e
      have q := I.bs b u e
      refine keep b u ?_ q.1
      intro z
      rw [z, hP] at q
      cases q.2
    have ar : Around1 X cenv s2.heap := by
      constructor
      · rw [e2, I.ok.glob]
        exact I.mod.glob.keeps kb
      · obtain ⟨mb, q1, q2⟩ := I.mod.blt
        rw [e3]
        exact ⟨mb, q1.keeps kb, q2⟩
    refine wpAny_mono (hel cenv A' E' c t s2 m2 e1 hh ar hn hm) ?_ (fun _ _ z => z)
    rintro y s3 ⟨rfl, k⟩
    exact ⟨⟨c, hc, rfl⟩, k⟩
  · rintro i y s2 Q E ⟨c, hc, rfl⟩ q
    have e : a.cps.toList[i]? = some c := by
      rw [Array.getElem?_toList]
      exact hc
    rw [GxR.trF_some e] at q
    exact wpAny_truthy_bool q
theorem text_all (a : Str) (pb : Nat → Bool) : (List.range a.cps.size).all (GxR.trF pb a.cps.toList) = (tl a).all pb := GxR.all_signs a pb
/-- lo <= x <= hi -/
def between (lo hi : Str) (c : Nat) : Bool := !decide ([c] < lo.cps.toList) && !decide (hi.cps.toList < [c])
theorem eval_between {X : Cx} {scope : Scope} {x lo hi : Str} {j1 j2 : Nat} {p1 p2 p3 p4 : Pos} {cenv : Env} {A' : Around} {E' : Value → Shared → Prop} {c : Nat} {t : Tok} {s2 : Shared} {m2 : Str → Option Value} {Q : Value → Shared → Prop}
    (hk : scope.kind = .function) (hl : scope.names.lookup x = some .local) (hd : (x == ("__debug__" : Str)) = false) (e1 : cenv.scope = scope) (hn : s2.heap.Ns cenv.locals m2) (hm : m2 x = some (.str ⟨#[c]⟩ t))
    (q : ∀ tk, Q (.bool (between lo hi c)) { s2 with toks := tk }) :
    wpAny (model X.prog X.w) A' (eval (.Compare (.Constant (.str lo) j1 p1) [.LtE, .LtE] [.Name x p2, .Constant (.str hi) j2 p3] p4) cenv) Q E' s2 := by
  refine Compare_chain ?_
  apply Calls.Constant_str
  apply chain_link
  refine wpAny_Name (wpAny_loadName_local (by rw [e1]; exact hk) (show cenv.scope.names.lookup x = some .local by rw [e1]; exact hl) hn hm ?_) hd
  apply PySem.P.le_str
  apply wpAny_truthy_bool
  by_cases h : [c] < lo.cps.toList
  · have e : (!decide ([c] < lo.cps.toList)) = false := by
      rw [decide_eq_true h]
      rfl
    show (if (!decide ([c] < lo.cps.toList)) = true then _ else Q (.bool (!decide ([c] < lo.cps.toList))) _)
    rw [e]
    have z := q (s2.toks + 1)
    unfold between at z
    rw [e, Bool.false_and] at z
    exact z
  · have e : (!decide ([c] < lo.cps.toList)) = true := by
      rw [decide_eq_false h]
      rfl
    show (if (!decide ([c] < lo.cps.toList)) = true then _ else Q (.bool (!decide ([c] < lo.cps.toList))) _)
    rw [e, if_pos rfl]
    apply chain_last
    apply Calls.Constant_str
    apply PySem.P.le_str
    have z := q (s2.toks + 1 + 1)
    unfold between at z
    rw [e, Bool.true_and] at z
    exact z
theorem test_between {X : Cx} {scope : Scope} {x lo hi : Str} {j1 j2 : Nat} {p1 p2 p3 p4 : Pos} (hk : scope.kind = .function) (hl : scope.names.lookup x = some .local) (hd : (x == ("__debug__" : Str)) = false := by decide) :
    SignTest X scope x (.Compare (.Constant (.str lo) j1 p1) [.LtE, .LtE] [.Name x p2, .Constant (.str hi) j2 p3] p4) (between lo hi) := by
  intro cenv A' E' c t s2 m2 e1 hh ar hn hm
  exact eval_between hk hl hd e1 hn hm fun tk => ⟨rfl, GxR.keeps_tok _ _⟩
/-- lo <= x <= hi and ord(x) != N -/
theorem test_between_ord {X : Cx} {scope : Scope} {x lo hi N : Str} {n : Int} {tn : Tok} {j1 j2 : Nat} {p1 p2 p3 p4 p5 p6 p7 p8 p9 p10 : Pos} (hk : scope.kind = .function) (hl : scope.names.lookup x = some .local) (ho : scope.names.lookup ("ord" : Str) = some .globalImplicit)
    (hN : scope.names.lookup N = some .globalImplicit) (mo : X.mg "ord" = none) (mN : X.mg N = some (.int n tn)) (hd : (x == ("__debug__" : Str)) = false := by decide) (hdN : (N == ("__debug__" : Str)) = false := by decide) :
    SignTest X scope x (.BoolOp .And [.Compare (.Constant (.str lo) j1 p1) [.LtE, .LtE] [.Name x p2, .Constant (.str hi) j2 p3] p4, .Compare (.Call (.Name "ord" p5) [.Name x p6] [] p7) [.NotEq] [.Name N p8] p9] p10) (fun c => between lo hi c && ((c : Int) != n)) := by
  intro cenv A' E' c t s2 m2 e1 hh ar hn hm
  have kf : cenv.scope.kind = .function := by rw [e1]; exact hk
  apply BoolOp_and
  apply eval_between hk hl hd e1 hn hm
  intro tk
  apply wpAny_truthy_bool
  obtain ⟨mb, hb, hbb⟩ := ar.bl
  cases hbt : between lo hi c with
  | false =>
    show (if false = true then _ else _)
    rw [if_neg Bool.false_ne_true]
    refine ⟨?_, GxR.keeps_tok _ _⟩
    show Value.bool false = Value.bool (between lo hi c && _)
    rw [hbt, Bool.false_and]
  | true =>
    show (if true = true then _ else _)
    rw [if_pos rfl]
    apply BoolOp_one
    refine wpAny_Compare1 ?_
    refine wpAny_Call_Name_kw ?_
    refine Calls.Name_function_global (s := { s2 with toks := tk }) kf (show cenv.scope.names.lookup ("ord" : Str) = some .globalImplicit by rw [e1]; exact ho) ?_
    refine Calls.loadGlobal_builtin (s := { s2 with toks := tk }) ar.gl mo hb ((hbb "ord" (by decide)).trans (show bootBuiltins "ord" = some (.builtin "ord") by decide +kernel)) ?_
    refine PyProof.Rows.callWith_builtin1 ?_ rfl rfl
    show wpAny _ _ (spliced ((false, eval (.Name x p6) cenv) :: backTo p7 (starEach [] cenv))) _ _ _
    refine Calls.spliced_cons ?_
    refine wpAny_Name (wpAny_loadName_local (s := { s2 with toks := tk }) kf (show cenv.scope.names.lookup x = some .local by rw [e1]; exact hl) hn hm ?_) hd
    refine Calls.spliced_nil ?_
    refine PySem.P.ord_of_char ?_
    refine Calls.Name_function_global (s := { s2 with toks := tk + 1 }) kf (show cenv.scope.names.lookup N = some .globalImplicit by rw [e1]; exact hN) ?_ hdN
    refine Calls.loadGlobal_global (s := { s2 with toks := tk + 1 }) ar.gl mN ?_
    refine PySem.P.ne_int ?_
    refine ⟨?_, GxR.keeps_tok _ _⟩
    show Value.bool ((c : Int) != n) = Value.bool (between lo hi c && _)
    rw [hbt, Bool.true_and]
theorem gen_scope {env : Env} {scope : Scope} {x : Str} (h1 : scope.kind = .function) (h2 : scope.isCoroutine = false) (h3 : ∀ y ∈ scope.names, y.2 ≠ .cell ∧ y.2 ≠ .free) (h4 : scope.names.lookup (".0" : Str) = some NameKind.local) (h5 : scope.names.lookup x = some .local) : GxR.GenS env scope x :=
  ⟨h1, h2, fun y m => (h3 y m).1, h4, h5, fun y m e => absurd e (h3 y m).2⟩
/-- a comprehension over a text -/
theorem lc_str {a : Str} {g : TG} {tt : TT} {te : TE} {vs : List Nat} {σ : L2.St} {H1 : Hp} {D : Addr} {Qd : Hp → Prop} (Pv : Nat → Hp → Prop) (h0 : Pv 0 (upd H1 D (.lst [])))
    (hs : ∀ i c H, (tl a)[i]? = some c → Pv i H → g (.str ⟨#[c]⟩) (wipe σ vs) H fun σ2 H2 => wipe σ2 vs = wipe σ vs ∧ tt σ2 H2 fun b H3 =>
      if b = true then te σ2 H3 fun y H4 => ∃ acc, H4 D = some (.lst acc) ∧ acc.length < sizeLine ∧ Pv (i + 1) (upd H4 D (.lst (acc ++ [y]))) else Pv (i + 1) H3) (hd : ∀ H, Pv a.cps.size H → Qd H) :
    ∃ W : Nat → Nat → Hp → Prop, (∃ m, W 0 m (upd H1 D (.lst []))) ∧ ∀ i m H, W i m H →
      ((Its a).stop i H ∧ Qd H) ∨ ((Its a).go i H ∧ ∃ Nx : Hp → Prop, (∀ H', Nx H' → ∃ m', m' < m ∧ W (i + 1) m' H') ∧ ∀ x H', (Its a).yld i H x H' → g x (wipe σ vs) H' fun σ2 H2 => wipe σ2 vs = wipe σ vs ∧ tt σ2 H2 fun b H3 =>
        if b = true then te σ2 H3 fun y H4 => ∃ acc, H4 D = some (.lst acc) ∧ acc.length < sizeLine ∧ Nx (upd H4 D (.lst (acc ++ [y]))) else Nx H3) := by
  refine ⟨fun i m H => m = a.cps.size - i ∧ i ≤ a.cps.size ∧ Pv i H, ⟨a.cps.size, by simp, Nat.zero_le _, h0⟩, ?_⟩
  rintro i m H ⟨rfl, le, p⟩
  rcases Nat.lt_or_ge i a.cps.size with lt | ge
  · refine .inr ⟨lt, Pv (i + 1), ?_, ?_⟩
    · intro H' p'
      exact ⟨a.cps.size - (i + 1), by omega, rfl, lt, p'⟩
    · rintro x H' ⟨rfl, c, hc, rfl⟩
      exact hs i c _ (by rw [Array.getElem?_toList]; exact hc) p
  · obtain rfl : i = a.cps.size := by omega
    exact .inl ⟨Nat.le_refl _, hd H p⟩
theorem one_lt (c d : Nat) : decide ([c] < [d]) = decide (c < d) := by
  rw [decide_eq_decide, List.cons_lt_cons_iff]
  constructor
  · rintro (h | ⟨_, h⟩)
    · exact h
    · exact absurd h (List.not_lt_nil _)
  · exact Or.inl
theorem all_take (pb : Nat → Bool) (l : List Nat) : ((l.map pb).all id) = l.all pb := by
  rw [List.all_map]
  rfl
theorem tri0 : TriplesOk (#[] : Array Value).toList := True.intro
theorem tabIn_of {K : PySem.W.Frag} {x : Str} {f c P : Addr} {oc ox : Value} {od oy : Option Addr} {fd : FuncData} {sl sz : Array (Option Value)} {vs : Array Value} (a : PySem.W.nsIn K mainGlobals x = some (some (.ref f))) (l : K.lookup f = some ⟨oc, od, .func fd, sl⟩) (hc : fd.code = .ref c)
    (lc : K.lookup c = some ⟨ox, oy, .fields vs, sz⟩) (pv : vs[11]? = some (.ref P)) : PySem.W.tabIn K x = some (c, P) := by
  unfold PySem.W.tabIn
  rw [a]
  dsimp only
  rw [l]
  dsimp only
  rw [hc]
  dsimp only
  rw [lc]
  dsimp only
  rw [pv]
/-- two tables -/
theorem tabsAt_of {h : Heap} {c1 p1 c2 p2 : Addr} (a : PySem.W.CodeHd h c1 p1 ∧ h.get? p1 = some (PySem.W.tabObj #[])) (b : PySem.W.CodeHd h c2 p2 ∧ h.get? p2 = some (PySem.W.tabObj #[])) : ∀ p ∈ [(c1, p1), (c2, p2)], h.get? p.2 = some { cls := .none, data := .fields #[] } := by
  intro p m
  rcases List.mem_cons.mp m with rfl | m
  · exact a.2
  · rw [List.mem_singleton.mp m]
    exact b.2
theorem tabsK_of {K : PySem.W.Frag} {c1 p1 c2 p2 : Addr} (a : K.lookup p1 = none) (b : K.lookup p2 = none) : ∀ p ∈ [(c1, p1), (c2, p2)], K.lookup p.2 = none := by
  intro p m
  rcases List.mem_cons.mp m with rfl | m
  · exact a
  · rw [List.mem_singleton.mp m]
    exact b
theorem tabsC_of {h : Heap} {c1 p1 c2 p2 : Addr} (a : PySem.W.CodeHd h c1 p1 ∧ h.get? p1 = some (PySem.W.tabObj #[])) (b : PySem.W.CodeHd h c2 p2 ∧ h.get? p2 = some (PySem.W.tabObj #[])) : ∀ p ∈ [(c1, p1), (c2, p2)], PySem.W.CodeHd h p.1 p.2 := by
  intro p m
  rcases List.mem_cons.mp m with rfl | m
  · exact a.1
  · rw [List.mem_singleton.mp m]
    exact b.1
end Cu

namespace Cu
open PySem PySem.Spec PyProof.Rows L2
/-! ### t[::-1] of a tuple -/
section
variable {prog : Program} {w : World} {A : Around} {E : Value → Shared → Prop} {s : Shared}
theorem places_back (n : Nat) : Builtin.Slice.slicePlaces ((n : Int) - 1) (-1) (-1) = n := by
  unfold Builtin.Slice.slicePlaces
  have h1 : ¬ ((-1 : Int) > 0) := by decide
  rw [if_neg h1]
  split
  · rw [show (- -1 : Int) = 1 by decide, Int.ediv_one]
    omega
  · omega
theorem fm_congr {α β : Type} {f g : α → Option β} : ∀ (l : List α), (∀ k ∈ l, f k = g k) → l.filterMap f = l.filterMap g
  | [], _ => rfl
  | a :: r, h => by
    rw [List.filterMap_cons, List.filterMap_cons, h a List.mem_cons_self, fm_congr r fun k m => h k (List.mem_cons_of_mem _ m)]
theorem pick_back (xs : Array Value) : ((List.range xs.size).filterMap fun (k : Nat) => xs[((xs.size : Int) - 1 + (k : Int) * -1).toNat]?).toArray = xs.toList.reverse.toArray := by
  have e : (List.range xs.size).filterMap (fun (k : Nat) => xs[((xs.size : Int) - 1 + (k : Int) * -1).toNat]?) = ((List.range xs.size).map (fun k => xs.size - 1 - k)).filterMap (fun k => xs[k]?) := by
    rw [List.filterMap_map]
    apply fm_congr
    intro k m
    have := List.mem_range.mp m
    show xs[((xs.size : Int) - 1 + (k : Int) * -1).toNat]? = xs[xs.size - 1 - k]?
    rw [show ((xs.size : Int) - 1 + (k : Int) * -1).toNat = xs.size - 1 - k by omega]
  rw [e, PySem.W.krv_range, List.filterMap_reverse, PySem.W.krv_all]
theorem applied_back {sl : Addr} {vs : Value} {n : Nat} {Q : Int × Int × Nat → Shared → Prop} (hs : s.heap.IsSliceOf sl .none .none vs) (ps : IsPart vs (some (-1))) (h : Q ((n : Int) - 1, -1, n) s) :
    wpAny (model prog w) A (Builtin.Slice.sliceApplied (.ref sl) (pure (n : Int))) Q E s := by
  obtain ⟨os, hos, hcs, hds⟩ := id hs
  unfold Builtin.Slice.sliceApplied Builtin.Slice.sliceFields
  refine wpAny_bind (wpAny_bind (wpAny_field hos hds (x := .none) rfl (wpAny_bind (wpAny_field hos hds (x := .none) rfl (wpAny_bind (wpAny_field hos hds (x := vs) rfl (wpAny_pure ?_)))))))
  refine wpAny_bind (HT.slicePart_ ps ?_)
  show wpAny _ _ (if ((-1 : Int) == 0) = true then _ else _) _ _ s
  rw [if_neg (by decide)]
  refine wpAny_bind (HT.slicePart_ .none (wpAny_bind (HT.slicePart_ .none (wpAny_bind (wpAny_pure ?_)))))
  show wpAny _ _ (pure ((n : Int) - 1, (-1 : Int), Builtin.Slice.slicePlaces ((n : Int) - 1) (-1) (-1))) _ _ s
  rw [places_back]
  exact wpAny_pure h
theorem get_back {t sl : Addr} {items : Array Value} {vs : Value} {Q : Value → Shared → Prop} (ht : IsTup s.heap t items) (hs : s.heap.IsSliceOf sl .none .none vs) (ps : IsPart vs (some (-1)))
    (h : Q (.ref s.heap.objs.size) { s with heap := s.heap.push { cls := .type "tuple", data := .seq items.toList.reverse.toArray } }) (hsz : items.size ≤ sizeLine) : wpAny (model prog w) A (getItem (.ref t) (.ref sl)) Q E s := by
  have fits : sizeOk (.seq items.toList.reverse.toArray) := by
    show items.toList.reverse.toArray.size ≤ sizeLine
    rw [List.size_toArray, List.length_reverse, Array.length_toList]
    exact hsz
  obtain ⟨os, hos, hcs, hds⟩ := id hs
  have isSl : s.TypeIs (.ref sl) "slice" := ⟨os, hos, hcs⟩
  unfold getItem
  try with_reducible refine wpAny_holding ?_
  first | refine wpAny_bind (wpAny_pure ?_) | skip
  refine wpAny_bind (wpAny_sequenceKey ht.typeIs (by decide) ?_)
  refine wpAny_bind (wpAny_callSpecial?_slot (name := Str.ofString "__getitem__") ht.typeIs PyProof.Rows.slot_tuple_getitem
    (wpAny_call_entry PyProof.Rows.slot_tuple_getitem ht.typeIs entry_tuple_getitem ?_ (args_tuple_getitem _ _)))
  show wpAny _ _ (Builtin.Tuple.tupleItemsOf (.ref t) >>= _) _ _ s
  refine wpAny_bind (tupleItemsOf_ ht ?_)
  refine wpAny_bind (wpAny_typeOf isSl ?_)
  rw [if_pos (by decide)]
  refine wpAny_bind (applied_back hs ps ?_)
  have no : ¬ ((((items.size : Int) - 1) == 0 && (-1 : Int) == 1 && items.size == items.size) = true) := by
    intro q
    rw [Bool.and_eq_true, Bool.and_eq_true] at q
    exact absurd (eq_of_beq q.1.2) (by decide)
  show wpAny _ _ (if (((items.size : Int) - 1) == 0 && (-1 : Int) == 1 && items.size == items.size) = true then _ else _) _ _ s
  rw [if_neg no, pick_back]
  first
    | exact wpAny_bind (m := Builtin.Tuple.tupleExact _) (wpAny_newObj_type (wpAny_pure ⟨_, rfl, wpAny_pure h⟩) fits)
    | exact wpAny_bind (m := Builtin.Tuple.tupleExact _) (wpAny_newObj_type (wpAny_bind (wpAny_pure (wpAny_pure ⟨_, rfl, wpAny_pure h⟩))) fits)
    | exact wpAny_bind (wpAny_bind (m := Builtin.Tuple.tupleExact _) (wpAny_newObj_type (wpAny_pure (wpAny_pure ⟨_, rfl, wpAny_pure h⟩)) fits))
    | exact wpAny_bind (wpAny_bind (m := Builtin.Tuple.tupleExact _) (wpAny_newObj_type (wpAny_pure ⟨_, rfl, wpAny_pure h⟩) fits))
end
section
variable {X : Cx}
def tRevT (K : PySem.W.Frag) (te : TE) : TE := fun σ H Q => te σ H fun x H1 => ∃ a xs, x = .ref a ∧ SqT K H1 a xs ∧ ∀ p, H1 p = none → Q (.ref p) (upd H1 p (.tup xs.reverse))
theorem pe_revT {e : Expr} {te : TE} {k : Nat} {p1 p2 p3 pos : Pos} (he : PE X e te) : PE X (.Subscript e (.Slice none none (some (.UnaryOp .USub (.Constant (.int 1) k p1) p2)) p3) pos) (tRevT X.K te) := by
  constructor
  intro pins s σ H Q I h
  refine Subscript_ (thn (he.run pins s σ H _ I h) ?_)
  rintro v s1 ⟨x, H1, I1, r1, a, xs, rfl, hx, q⟩
  cases r1
  have step : PO X (some (.UnaryOp .USub (.Constant (.int 1) k p1) p2)) (tPart (tUn (rU fun i => .int (-i)) (tC (.int 1)))) := po_some (pe_un un_neg pe_int)
  refine wpAny_Slice (thn (po_none.run pins s1 σ H1 (fun o H2 => o = none ∧ H2 = H1) I1 ⟨rfl, rfl⟩) ?_)
  rintro vl s2 ⟨l, H2, I2, pl, el, e2⟩
  rw [e2] at I2
  rw [el] at pl
  refine thn (po_none.run pins s2 σ _ (fun o H3 => o = none ∧ H3 = H1) I2 ⟨rfl, rfl⟩) ?_
  rintro vu s3 ⟨u, H3, I3, pu, eu, e3⟩
  rw [e3] at I3
  rw [eu] at pu
  refine thn (step.run pins s3 σ _ (fun o H4 => o = some (-1) ∧ H4 = H1) I3 ⟨1, rfl, -1, rfl, rfl, rfl⟩) ?_
  rintro vs s4 ⟨o, H4, I4, ps, eo, e4⟩
  rw [e4] at I4
  rw [eo] at ps
  cases pl
  cases pu
  have I5 : Inv X pins σ H1 { s4 with heap := s4.heap.push { cls := .type "slice", data := .fields #[.none, .none, vs] } } := I4.kept (t' := s4.toks) fun b ob q => Heap.get?_push_of_some _ q
  obtain ⟨its, r, ht, hz⟩ := I5.tuple hx
  have len := r.length
  show wpAny (model X.prog X.w) X.A (subscriptTail e (.Slice none none (some (.UnaryOp .USub (.Constant (.int 1) k p1) p2)) p3) (.ref a) (.ref s4.heap.objs.size)) (EP X pins σ Q) X.xe { s4 with heap := s4.heap.push { cls := .type "slice", data := .fields #[.none, .none, vs] } }
  refine tail_any (ops := [.ref a, .ref s4.heap.objs.size]) ht.typeIs (PyProof.Rows.slot_tuple_getitem.lookup) ?_ (by with_unfolding_all rfl)
  refine get_back ht (Heap.IsSliceOf.new _ _ _ vs) ps ?_ (by rw [List.size_toArray]; omega)
  refine ⟨.ref _, _, I5.laid (t' := s4.toks) (o := .tup xs.reverse) (fun b ob q => Heap.get?_push_of_some _ q) (Nat.le_refl _) ?_, rfl, q _ (I5.hok.fresh (Nat.le_refl _))⟩
  refine ⟨?_, _, r.reverse, IsTup.new _ _⟩
  rw [List.length_reverse]
  exact hz
end
end Cu

namespace Cu
open PySem PySem.Spec PyProof.Rows L2
/-! ### any(x in others for x in documents) -/
theorem src_tuple {prog : Program} {w : World} {P t : Addr} {s1 : Shared} {items : Array Value} (ht : s1.heap.IsTuple t items) (hP : P < s1.heap.objs.size) (nP : t ≠ P) : Src prog w P s1 (.ref t) items.size (fun i v => items[i]? = some v) := by
  intro A E Q h hh
  have lt : t < s1.heap.objs.size := by
    obtain ⟨o, e, _⟩ := ht
    exact Heap.lt_size e
  apply wpAny_pyIter_tuple ht
  refine h _ [s1.heap.objs.size, t] _ (fun A' hA => Walks.tuple hA _ t (Nat.ne_of_lt lt) items) ⟨⟨_, Heap.get?_push_size _ rfl, rfl, rfl⟩, ht.push _⟩ ?_
  intro b hb
  rcases List.mem_cons.mp hb with rfl | z
  · exact ⟨Nat.le_refl _, fun e => Nat.lt_irrefl _ (e ▸ hP)⟩
  · rw [List.mem_singleton.mp z]
    exact ⟨Nat.le_of_lt lt, nP⟩
theorem src_list {prog : Program} {w : World} {P t : Addr} {s1 : Shared} {items : Array Value} (ht : s1.heap.IsList t items) (hP : P < s1.heap.objs.size) (nP : t ≠ P) : Src prog w P s1 (.ref t) items.size (fun i v => items[i]? = some v) := by
  intro A E Q h hh
  have lt : t < s1.heap.objs.size := by
    obtain ⟨o, e, _⟩ := ht
    exact Heap.lt_size e
  apply wpAny_pyIter_list ht
  refine h _ [s1.heap.objs.size, t] _ (fun A' hA => Walks.list hA _ t (Nat.ne_of_lt lt) items) ⟨⟨_, Heap.get?_push_size _ rfl, rfl, rfl⟩, ht.at fun o e => Heap.get?_push_of_some _ e⟩ ?_
  intro b hb
  rcases List.mem_cons.mp hb with rfl | z
  · exact ⟨Nat.le_refl _, fun e => Nat.lt_irrefl _ (e ▸ hP)⟩
  · rw [List.mem_singleton.mp z]
    exact ⟨Nat.le_of_lt lt, nP⟩
/-- what a rule for any(..) asks, by the frame's names -/
def GenRs (X : Cx) (P : Addr) (scope : Scope) (x : Str) (elt : Expr) (R : L2.St → V → Hp → Nat → (Nat → Bool) → Prop) : Prop :=
  ∀ pins σ v H1 s1 u n tr, R σ v H1 n tr → GxR.TabG H1 P → Inv X pins σ H1 s1 → RelV v u → P < s1.heap.objs.size → ∃ Pf F, Src X.prog X.w P s1 u n Pf ∧ Calm X P scope x elt s1 Pf F ∧ TruthOf X.prog X.w X.A.in1 F tr
def tAnyG (P : Addr) (te : TE) (R : L2.St → V → Hp → Nat → (Nat → Bool) → Prop) : TE := fun σ H Q => te σ H fun v H1 => GxR.TabG H1 P ∧ ∃ n tr, R σ v H1 n tr ∧ ∀ H2, GxR.Tabbed P H1 H2 → Q (.bl ((List.range n).any tr)) H2
section
variable {X : Cx}
theorem pe_anyG {c P : Addr} {elt iter : Expr} {x : Str} {px p pos gpos : Pos} {scope : Scope} {te : TE} {k : Nat} {R : L2.St → V → Hp → Nat → (Nat → Bool) → Prop}
    (hr : Room k X.A) (hg : Gl X "any") (hm : X.mg "any" = none) (TB : GxR.TabB X.base X.mg c P) (hcode : X.env.code = .ref c) (S : GxR.GenS X.env scope x) (hi : PE X iter te) (rule : GenRs X P scope x elt R)
    (hs : ∀ v, genFold iter X.env v = pure v := by intro _; rfl)
    (he : starEach [.GeneratorExp elt [⟨.Name x px, iter, [], 0⟩] scope gpos] X.env = (false, eval (.GeneratorExp elt [⟨.Name x px, iter, [], 0⟩] scope gpos) X.env) :: starEach [] X.env := by rfl) :
    PE X (.Call (.Name "any" p) [.GeneratorExp elt [⟨.Name x px, iter, [], 0⟩] scope gpos] [] pos) (tAnyG P te R) := by
  constructor
  intro pins s σ H Q I h
  apply wpAny_Call_Name_kw
  apply ld_blt I hg hm (show bootBuiltins "any" = some (.builtin "any") by decide +kernel)
  apply PyProof.Rows.callWith_builtin1 _ he (by rfl)
  rw [he]
  show wpAny _ _ (spliced ((false, eval (.GeneratorExp elt [⟨.Name x px, iter, [], 0⟩] scope gpos) X.env) :: backTo pos (starEach [] X.env))) _ _ s
  apply Calls.spliced_cons
  apply gen_make (R := fun v H1 => ∃ n tr, R σ v H1 n tr ∧ ∀ H2, GxR.Tabbed P H1 H2 → Q (.bl ((List.range n).any tr)) H2) hr TB hcode S hi hs I h
  rintro v H1 s1 u ⟨n, tr, hR, q⟩ tab I1 ru ltP
  obtain ⟨Pf, F, sc, calm, tru⟩ := rule pins σ v H1 s1 u n tr hR tab I1 ru ltP
  refine ⟨n, Pf, F, sc, calm, ?_⟩
  rintro g s5 ⟨fp, wr, G, go, W, st, inv⟩
  apply Calls.spliced_nil
  apply call_any_walkS
  apply W.self 0 _ _ _ st
  refine ⟨g, fp, wr, G, n, F, go, tr, rfl, W, st, tru, ?_⟩
  intro s' mv
  obtain ⟨H2, tb, J⟩ := inv s' mv
  exact ⟨.bl _, H2, J, rfl, q H2 tb⟩
/-- the i-th of xs lies in ys -/
def inAt (xs ys : List V) (i : Nat) : Bool := match xs[i]? with
  | some x => inV x ys
  | none => false
theorem inAt_any (xs ys : List V) : (List.range xs.length).any (inAt xs ys) = xs.any fun x => inV x ys := by
  rw [Bool.eq_iff_iff, List.any_eq_true, List.any_eq_true]
  constructor
  · rintro ⟨i, hi, h⟩
    have lt := List.mem_range.mp hi
    unfold inAt at h
    rw [List.getElem?_eq_getElem lt] at h
    exact ⟨_, List.getElem_mem lt, h⟩
  · rintro ⟨x, hx, h⟩
    obtain ⟨i, lt, e⟩ := List.getElem_of_mem hx
    refine ⟨i, List.mem_range.mpr lt, ?_⟩
    unfold inAt
    rw [List.getElem?_eq_getElem lt, e]
    exact h
def RIn (K : PySem.W.Frag) (j : Nat) : L2.St → V → Hp → Nat → (Nat → Bool) → Prop := fun σ v H n tr => ∃ t p xs ys, v = .ref t ∧ SqT K H t xs ∧ σ[j]? = some (some (.ref p)) ∧ (SqL K H p ys ∨ SqT K H p ys) ∧ xs.all flatV = true ∧ ys.all flatV = true ∧ n = xs.length ∧ tr = inAt xs ys
theorem vals_at : ∀ {xs : List V} {us : List Value} {i : Nat} {u : Value}, Vals xs us → us[i]? = some u → ∃ x, xs[i]? = some x ∧ RelV x u
  | _, _, _, _, .nil, e => by cases e
  | x :: xs, u :: us, 0, _, .cons r t, e => by
    cases e
    exact ⟨x, rfl, r⟩
  | x :: xs, u :: us, i + 1, _, .cons r t, e => vals_at (i := i) t e
theorem vals_len : ∀ {xs : List V} {us : List Value}, Vals xs us → us.length = xs.length
  | _, _, .nil => rfl
  | _, _, .cons _ t => by rw [List.length_cons, List.length_cons, vals_len t]
theorem genR_in {P : Addr} {scope : Scope} {x o : Str} {j : Nat} {p1 p2 p3 : Pos} (hk : scope.kind = .function) (hl : scope.names.lookup x = some .local) (ho : scope.names.lookup o = some .free) (hj : X.N[j]? = some o) (hv : X.env.scope.names.lookup o = some .cell) (hc : X.env.kindOf o = some .cell)
    (clo : ∀ (cells : List (Str × Addr)) c, cells.lookup o = some c → (cloFrom cells scope.names []).lookup o = some c) (hd : (x == ("__debug__" : Str)) = false := by decide) (hd2 : (o == ("__debug__" : Str)) = false := by decide) (hd3 : (o == ("__classdict__" : Str)) = false := by decide) :
    GenRs X P scope x (.Compare (.Name x p1) [.In] [.Name o p2] p3) (RIn X.K j) := by
  rintro pins σ v H1 s1 u n tr ⟨t, p, xs, ys, rfl, hx, hσ, hy, fx, fy, rfl, rfl⟩ ⟨ps, hP, _⟩ I ru ltP
  cases ru
  have isP : s1.heap.get? P = some { cls := .none, data := .fields ps } := I.hok P _ hP
  obtain ⟨its, r, pl, _⟩ := I.tuple hx
  have notP : ∀ b ob, s1.heap.get? b = some ob → (∀ z, ob.data ≠ .fields z) → b ≠ P := by
    intro b ob e nf z
    rw [z, isP] at e
    cases e
    exact nf _ rfl
  have plT : s1.heap.IsTuple t its.toArray := pl
  have tP : t ≠ P := by
    obtain ⟨ob, e, _, m, hd⟩ := pl
    exact notP t ob e fun z e2 => by rw [hd] at e2; cases e2
  obtain ⟨m, _, look⟩ := I.loc
  obtain ⟨u, rp, lk⟩ := look j o _ hj hσ (.inr (.inl hv))
  cases rp
  obtain ⟨c, hcl, hcell⟩ : ∃ c, X.env.cells.lookup o = some c ∧ s1.heap.IsCell c (some (.ref p)) := by
    rcases lk with ⟨k1, _⟩ | ⟨_, k2⟩
    · rw [hc] at k1
      cases k1
    · exact k2
  refine ⟨fun i v => its.toArray[i]? = some v, fun i y => ∃ x, xs[i]? = some x ∧ y = .bool (inV x ys), ?_, ?_, ?_⟩
  · have := src_tuple (prog := X.prog) (w := X.w) plT ltP tP
    rw [List.size_toArray, vals_len r] at this
    exact this
  · intro cenv A' E' i v s2 m2 e1 e2 e3 e4 hh hv2 hn hm keep
    have hv3 : its[i]? = some v := by
      rw [List.getElem?_toArray] at hv2
      exact hv2
    obtain ⟨x', hx', rx⟩ := vals_at r hv3
    have f1 : flatV x' = true := List.all_eq_true.mp fx x' (List.mem_of_getElem? hx')
    have kf : cenv.scope.kind = .function := by rw [e1]; exact hk
    have cell2 : s2.heap.IsCell c (some (.ref p)) := by
      obtain ⟨ob, e, hd⟩ := hcell
      refine ⟨ob, keep c ob ?_ e, hd⟩
      exact notP c ob e fun z e2 => by rw [hd] at e2; cases e2
    refine wpAny_Compare1 ?_ (hm := rfl)
    refine wpAny_Name (wpAny_loadName_local kf (show cenv.scope.names.lookup x = some .local by rw [e1]; exact hl) hn hm ?_) hd
    refine wpAny_Name (wpAny_loadName_free kf (show cenv.scope.names.lookup o = some .free by rw [e1]; exact ho) (by rw [e4]; exact clo _ _ hcl) cell2 ?_ hd3) hd2
    rcases hy with hy | hy
    · obtain ⟨js, r2, pl2, _⟩ := I.list hy
      have l2 : s2.heap.IsList p js.toArray := pl2.isList.at fun ob e => keep p ob (by
        obtain ⟨ob2, e2, _, m, hd⟩ := pl2.isList
        exact notP p ob2 e2 fun z e2 => by rw [hd] at e2; cases e2) e
      refine SeqAt.in_listAt (eqU x') l2 (fun w hw => mem_eqAt rx f1 r2 fy w (by simpa using hw)) ⟨⟨x', hx', ?_⟩, GxR.keeps_refl _⟩
      rw [show js.toArray.any (eqU x') = js.any (eqU x') by simp, any_eqU r2 fy]
      rfl
    · obtain ⟨js, r2, pl2, _⟩ := I.tuple hy
      have pl3 : s1.heap.IsTuple p js.toArray := pl2
      have l2 : s2.heap.IsTuple p js.toArray := pl3.at fun ob e => keep p ob (by
        obtain ⟨ob2, e2, _, m, hd⟩ := pl2
        exact notP p ob2 e2 fun z e2 => by rw [hd] at e2; cases e2) e
      refine SeqAt.in_tupleAt (eqU x') l2 (fun w hw => mem_eqAt rx f1 r2 fy w (by simpa using hw)) ⟨⟨x', hx', ?_⟩, GxR.keeps_refl _⟩
      rw [show js.toArray.any (eqU x') = js.any (eqU x') by simp, any_eqU r2 fy]
      rfl
  · rintro i y s2 Q E ⟨x', hx', rfl⟩ q
    have e : inAt xs ys i = inV x' ys := by
      unfold inAt
      rw [hx']
    rw [e] at q
    exact wpAny_truthy_bool q
end
end Cu

namespace Cu
open PySem PySem.Spec PyProof.Rows L2
/-! ### tuple(a for a, b in pairs if c in b) -/
section
variable {prog : Program} {w : World} {A : Around} {E : Value → Shared → Prop} {s : Shared}
theorem letOwned_tupleiter {elts : List Expr} {x1 : Nat} {pos : Pos} {I l T : Addr} {i : Nat} {Q : Unit → Shared → Prop} (hit : s.heap.IsTupleIter I l i) (hQ : Q () s) :
    wpAny (model prog w) A (letOwnedTupleGo (.Tuple elts x1 pos) (.ref I) (.ref T)) Q E s := by
  obtain ⟨o, ho, hc, hd⟩ := hit
  unfold letOwnedTupleGo
  refine wpAny_bind (wpAny_load ho ?_)
  rw [hc, hd]
  dsimp only
  rw [if_neg]
  · exact wpAny_pure hQ
  · intro z
    rw [Bool.and_eq_true] at z
    exact absurd z.1 (by decide)
end
theorem walks_pairs {prog : Program} {w : World} {A : Around} (hh : A.handled = none) (I ax : Addr) (hne : ax ≠ I) (items : Array Value) (Ts : Nat → Addr) (vals : Nat → Array Value)
    (hit : ∀ j, j < items.size → items[j]? = some (.ref (Ts j))) (hTI : ∀ j, j < items.size → Ts j ≠ I) :
    WalksU prog w A I (I :: ax :: (List.range items.size).map Ts) [I] items.size (fun j v => j < items.size ∧ v = vals j)
      (fun j h => h.IsTupleIter I ax j ∧ h.IsTuple ax items ∧ ∀ k, k < items.size → h.IsTuple (Ts k) (vals k))
      (fun j T h => (j < items.size ∧ T = Ts j) ∧ h.IsTupleIter I ax (j + 1) ∧ h.IsTuple ax items ∧ ∀ k, k < items.size → h.IsTuple (Ts k) (vals k)) where
  sub := fun b m => by
    rw [List.mem_singleton.mp m]
    exact List.mem_cons_self
  frame := by
    rintro i h h' ⟨a1, a2, a3⟩ keep
    refine ⟨a1.at (keep I List.mem_cons_self), a2.at (keep ax (List.mem_cons_of_mem _ List.mem_cons_self)), fun n lt => (a3 n lt).at (keep (Ts n) ?_)⟩
    exact List.mem_cons_of_mem _ (List.mem_cons_of_mem _ (List.mem_map_of_mem (List.mem_range.mpr lt)))
  item := by
    rintro i s Q E lt ⟨a1, a2, a3⟩ q
    apply wpAny_pyNext_tuple_item a1 a2 (hit i lt)
    intro h' now rest
    have all : ∀ n, n < items.size → h'.IsTuple (Ts n) (vals n) := fun n l => (a3 n l).extBut rest.extBut (hTI n l)
    refine q _ _ h' s.toks ⟨lt, rfl⟩ (all i lt) ⟨⟨lt, rfl⟩, now, a2.extBut rest.extBut hne, all⟩ ?_
    intro b o nb e
    exact rest.extBut b o (fun z => nb (z ▸ List.mem_cons_self)) e
  go := by
    rintro _ _ _ i T s Q E ⟨_, a1, a2⟩ q
    exact letOwned_tupleiter a1 (q s.heap ⟨a1, a2⟩ fun _ _ _ e => e)
  apart := by
    rintro i T h ⟨⟨lt, rfl⟩, _⟩ m
    exact hTI i lt (List.mem_singleton.mp m)
  done := by
    rintro s Q E ⟨a1, a2, _⟩ q
    apply wpAny_pyNext_tuple_end hh a1 a2 (by simp)
    intro h' rest
    exact q h' s.toks fun b o nb e => rest b o (fun z => nb (z ▸ List.mem_cons_self)) e
  self := by
    rintro i s Q E ⟨a1, _⟩ q
    exact wpAny_pyIter_tupleiter a1 q
/-- what xv gives when it is walked from the state s1: n pairs -/
def SrcT (prog : Program) (w : World) (P : Addr) (s1 : Shared) (xv : Value) (n : Nat) (Pt : Nat → Array Value → Prop) : Prop :=
  ∀ (A : Around) (E : Value → Shared → Prop) (Q : Value → Shared → Prop),
    (∀ (o : Obj) (fp : List Addr) (go : Nat → Heap → Prop) (Mid : Nat → Addr → Heap → Prop), (∀ A' : Around, A'.handled = none → WalksU prog w A' s1.heap.objs.size fp [s1.heap.objs.size] n Pt go Mid) → go 0 (s1.heap.push o) → (∀ b ∈ fp, b ≤ s1.heap.objs.size ∧ b ≠ P) →
      Q (.ref s1.heap.objs.size) { s1 with heap := s1.heap.push o }) → A.handled = none → wpAny (model prog w) A (pyIter xv) Q E s1
/-- tests and element change nothing -/
def CalmT (X : Cx) (P : Addr) (scope : Scope) (xa xb : Str) (ifs : List Expr) (elt : Expr) (s1 : Shared) (Pt : Nat → Array Value → Prop) (pz : Nat → Bool) (F : Nat → Value → Prop) : Prop :=
  ∀ (cenv : Env) (A' : Around) (E' : Value → Shared → Prop) (i : Nat) (va vb : Value) (s2 : Shared) (m2 : Str → Option Value), cenv.scope = scope → cenv.globals = X.env.globals → cenv.builtins = builtinsNs → cenv.cells = cloFrom X.env.cells scope.names [] →
    A'.handled = none → Pt i #[va, vb] → s2.heap.Ns cenv.locals m2 → m2 xa = some va → m2 xb = some vb → (∀ b u, b ≠ P → s1.heap.get? b = some u → s2.heap.get? b = some u) →
    wpAny (model X.prog X.w) A' (forIn ifs true fun c r => if r = true then do let ok ← isTrue c cenv (eval c cenv); pure (ForInStep.yield ok) else pure (ForInStep.yield r)) (fun ok s3 => ok = pz i ∧ Keeps s2 s3) E' s2 ∧
    (pz i = true → wpAny (model X.prog X.w) A' (eval elt cenv) (fun y s3 => F i y ∧ Keeps s2 s3) E' s2)
/-- the generator g is ready to be walked by a builtin type -/
def SetT (X : Cx) (pins : List (Addr × Obj)) (σ : L2.St) (H1 : Hp) (P : Addr) (n : Nat) (F : Nat → Value → Prop) (g : Addr) (s5 : Shared) : Prop :=
  ∃ (fp wr : List Addr) (G : Array GenState → Array GenState → Prop) (go : Nat → Shared → Prop), WalksS X.prog X.w X.A.in1.in1.in1 g fp wr G n F go ∧ (∀ i s, go i s → s.TypeIs (.ref g) "generator") ∧ go 0 s5 ∧ (∀ b ∈ fp, b < s5.heap.objs.size) ∧ g ∈ fp ∧
    ∀ s', Moved wr G s5 s' → ∃ H2, GxR.Tabbed P H1 H2 ∧ Inv X pins σ H2 s'
section
variable {X : Cx} {pins : List (Addr × Obj)} {σ : L2.St} {H : Hp} {s : Shared}
theorem gen_makeT {c P : Addr} {elt iter : Expr} {xa xb : Str} {pa pb pt gpos : Pos} {kt : Nat} {ifs : List Expr} {scope : Scope} {te : TE} {k : Nat} {Q' : Value → Shared → Prop} {R : V → Hp → Prop}
    (hr : Room k X.A) (TB : GxR.TabB X.base X.mg c P) (hcode : X.env.code = .ref c) (S : GxR.GenS X.env scope xa) (Sb : scope.names.lookup xb = some .local) (hab : xa ≠ xb) (hi : PE X iter te) (hs : ∀ v, genFold iter X.env v = pure v) (I : Inv X pins σ H s)
    (h : te σ H fun v H1 => GxR.TabG H1 P ∧ R v H1)
    (src : ∀ v H1 s1 u, R v H1 → GxR.TabG H1 P → Inv X pins σ H1 s1 → RelV v u → P < s1.heap.objs.size → ∃ n Pt pz F, SrcT X.prog X.w P s1 u n Pt ∧ (∀ i vals, Pt i vals → ∃ va vb, vals = #[va, vb]) ∧ CalmT X P scope xa xb ifs elt s1 Pt pz F ∧
      ∀ g s5, SetT X pins σ H1 P (passing pz n 0).length (fun j y => ∃ i, (passing pz n 0)[j]? = some i ∧ F i y) g s5 → Q' (.ref g) s5) :
    wpAny (model X.prog X.w) X.A (eval (.GeneratorExp elt [⟨.Tuple [.Name xa pa, .Name xb pb] kt pt, iter, ifs, 0⟩] scope gpos) X.env) Q' X.xe s := by
  have dp : X.A.depth < recursionLimit := by
    have := hr.dp
    omega
  apply wpAny_GeneratorExp_walksQT hr.hd S.co (closure_ok S.free) S.cell S.dot S.loc Sb hab S.kind dp _ hs
  refine thn (hi.run pins s σ H _ I h) ?_
  rintro xv s1 ⟨v, H1, I1, r1, tab, hR⟩
  obtain ⟨ps, hP, tr⟩ := id tab
  have isP : s1.heap.get? P = some { cls := .none, data := .fields ps } := I1.hok P _ hP
  have ltP : P < s1.heap.objs.size := Heap.lt_size isP
  obtain ⟨n, Pt, pz, F, sc, two, calm, fin⟩ := src v H1 s1 xv hR tab I1 r1 ltP
  apply sc _ _ _ _ hr.hd
  intro o fp go Mid W st hfp
  have isP2 : (s1.heap.push o).get? P = some { cls := .none, data := .fields ps } := Heap.get?_push_of_some _ isP
  have cd : PySem.W.CodeHd (s1.heap.push o) c P := TB.code.keeps fun b u e => Heap.get?_push_of_some _ (I1.bk b u e)
  have lim2 := I1.nolimit.push o
  refine And.intro lim2 ?_
  have rest : ∀ (code : Value) (h3 : Heap) (tk : Nat) (qs : Array Value), Heap.ExtBut P (s1.heap.push o) h3 → (s1.heap.push o).objs.size ≤ h3.objs.size → h3.get? P = some { cls := .none, data := .fields qs } → (∃ more, qs = ps ++ more) → TriplesOk qs.toList →
      wpAny (model X.prog X.w) X.A (builtinsFor X.env.globals X.env.builtins) (fun bi s4 =>
        ∃ it fp wr n₀ Pt St₀ Mid pz F, Value.ref s1.heap.objs.size = .ref it ∧ (∀ A' : Around, A'.handled = none → WalksU X.prog X.w A' it fp wr n₀ Pt St₀ Mid) ∧ (∀ i vals, Pt i vals → ∃ va vb, vals = #[va, vb]) ∧ St₀ 0 s4.heap ∧ (∀ b ∈ fp, b < s4.heap.objs.size) ∧ s4.heap.NoLimit ∧ cStatics ∉ wr ∧
          (∀ href : Heap, (∀ b o, s4.heap.get? b = some o → href.get? b = some o) → QuietGenT X.prog X.w (genEnv scope (cloFrom X.env.cells scope.names []) s4.heap.objs.size code bi X.env) xa xb ifs elt (List.range s4.heap.objs.size) wr Pt pz F href) ∧
          (∀ a h₅ tk gs, gs.bare = true → s4.heap.objs.size < a → h₅.objs.size = a + 1 → (∀ b o, s4.heap.get? b = some o → h₅.get? b = some o) →
            WalksS X.prog X.w X.A.in4 a (a :: s4.heap.objs.size :: List.range s4.heap.objs.size) (s4.heap.objs.size :: wr) (GenOnlyQ s4.gens.size) (passing pz n₀ 0).length
              (fun j y => ∃ i, (passing pz n₀ 0)[j]? = some i ∧ F i y) (GenAt X.prog X.w X.A.in4 a s4.gens.size s4.heap.objs.size (List.range s4.heap.objs.size) wr pz n₀ F) →
            GenAt X.prog X.w X.A.in4 a s4.gens.size s4.heap.objs.size (List.range s4.heap.objs.size) wr pz n₀ F 0 { s4 with gens := s4.gens.push gs, toks := tk, heap := h₅ } →
            Q' (.ref a) { s4 with gens := s4.gens.push gs, toks := tk, heap := h₅ })) X.xe { s1 with heap := h3, toks := tk } := by
    intro code h3 tk qs ex size isP3 grown tr3
    obtain ⟨bm, ob, b1, b2, b3, b4, b5, b6, b7, b8⟩ := TB.bm
    have old3 : ∀ b u, b ≠ P → s1.heap.get? b = some u → h3.get? b = some u := fun b u nb e => ex b u nb (Heap.get?_push_of_some _ e)
    have itlt : s1.heap.objs.size < h3.objs.size := by
      have q : (s1.heap.push o).objs.size = s1.heap.objs.size + 1 := Heap.size_push ..
      omega
    obtain ⟨mc, nsc, _⟩ := id I1.nolimit
    have ltc : cStatics < s1.heap.objs.size := nsc.lt
    have ncP : cStatics ≠ P := by
      intro e
      obtain ⟨o', es, ep, ho, hd, _⟩ := nsc
      rw [e, isP] at ho
      cases ho
      cases hd
    have gl : h3.Ns X.env.globals X.mg := by
      rw [I1.ok.glob]
      exact ((I1.mod.glob.keeps I1.bk).push o).extBut ex TB.gP
    apply wpAny_builtinsFor gl b1 b2 (old3 _ _ b4 (I1.bk _ _ b5)) b6 b7 b8
    refine ⟨s1.heap.objs.size, fp, [s1.heap.objs.size], n, Pt, go, Mid, pz, F, rfl, W, two, ?_, ?_, lim2.extBut ex ncP, ?_, ?_, ?_⟩
    · exact (W X.A hr.hd).frame _ _ _ st fun b hb u e => ex b u (hfp b hb).2 e
    · intro b hb
      exact Nat.lt_of_le_of_lt (hfp b hb).1 itlt
    · intro z
      rcases List.mem_cons.mp z with z | z
      · exact Nat.ne_of_lt ltc z
      · cases z
    · intro href kept
      have was : ∀ s2 : Shared, (∀ b ∈ List.range h3.objs.size, b ∉ [s1.heap.objs.size] → ∀ o, href.get? b = some o → s2.heap.get? b = some o) → ∀ b u, b ≠ P → s1.heap.get? b = some u → s2.heap.get? b = some u := by
        intro s2 hk b u nb e
        have l1 := Heap.lt_size e
        refine hk b (List.mem_range.mpr (Nat.lt_trans l1 itlt)) ?_ u (kept b u (old3 b u nb e))
        intro z
        rcases List.mem_cons.mp z with z | z
        · exact Nat.ne_of_lt l1 z
        · cases z
      constructor
      · intro A' E' i va vb s2 m2 hA hPv hn hm hm' hk
        exact (calm (genEnv scope (cloFrom X.env.cells scope.names []) h3.objs.size code builtinsNs X.env) A' E' i va vb s2 m2 rfl rfl rfl rfl hA hPv hn hm hm' (was s2 hk)).1
      · intro A' E' i va vb s2 m2 hA hPv hp hn hm hm' hk
        exact (calm (genEnv scope (cloFrom X.env.cells scope.names []) h3.objs.size code builtinsNs X.env) A' E' i va vb s2 m2 rfl rfl rfl rfl hA hPv hn hm hm' (was s2 hk)).2 hp
    · intro g h5 tk5 gs bare lt5 sz5 keep5 W5 at5
      refine fin g _ ⟨_, _, _, _, W5.in4_3, ?_, at5, ?_, List.mem_cons_self, ?_⟩
      · rintro i s ⟨⟨ob, _, _, e, hc, _⟩, _⟩
        exact ⟨ob, e, hc⟩
      · intro b hb
        show b < h5.objs.size
        rw [sz5]
        have lt5' : h3.objs.size < g := lt5
        rcases List.mem_cons.mp hb with z | z
        · rw [z]
          exact Nat.lt_succ_self _
        · rcases List.mem_cons.mp z with z | z
          · rw [z]
            exact Nat.lt_succ_of_lt lt5'
          · exact Nat.lt_succ_of_lt (Nat.lt_trans (List.mem_range.mp z) lt5')
      · intro s' mv
        obtain ⟨more, em⟩ := grown
        have out : ∀ b u, s1.heap.get? b = some u → b ∉ h3.objs.size :: [s1.heap.objs.size] := by
          intro b u e hb
          have l1 : b < s1.heap.objs.size := Heap.lt_size e
          rcases List.mem_cons.mp hb with z | z
          · exact Nat.lt_irrefl _ (Nat.lt_trans (z ▸ l1 : (h3.objs.size : Nat) < s1.heap.objs.size) itlt)
          · rcases List.mem_cons.mp z with z | z
            · exact Nat.ne_of_lt l1 z
            · cases z
        have other : ∀ b u, b ≠ P → s1.heap.get? b = some u → s'.heap.get? b = some u := fun b u nb e => mv.heap b u (out b u e) (keep5 b u (old3 b u nb e))
        have tabNow : s'.heap.get? P = some { cls := .none, data := .fields (ps ++ more) } := by
          rw [← em]
          exact mv.heap P _ (out P _ isP) (keep5 P _ isP3)
        have J := GxR.inv_tab (more := more) (h' := s'.heap) (g' := s'.gens) (d' := s'.drawn) (t' := s'.toks) I1 hP other tabNow (AllBare.movedS (I1.bare.push bare) mv)
        rw [GxR.sh_eta s1 s' mv.os] at J
        refine ⟨upd H1 P (.tbl (ps ++ more)), ⟨⟨ps ++ more, upd_same, ?_⟩, fun b nb => upd_ne nb⟩, J⟩
        rw [← em]
        exact tr3
  cases hit : codeAmong gpos ps.toList with
  | none =>
    apply wpAny_genexprCodeX hcode (cd.code isP2 tr) (cd.tab isP2) hit
    intro c' h' tk ex ge lt co' _ tab' _
    obtain ⟨o1, vs, f1, tf, fl, tg, inF, tx, tt, op, _, _, _, _, _, _, _, _, _, tr', _⟩ := co'
    exact rest _ h' tk _ ex (Nat.le_trans ge (Nat.le_of_lt lt)) tab'.2 ⟨_, rfl⟩ tr'
  | some cv =>
    apply wpAny_genexprCode_hit hcode (cd.code isP2 tr) hit
    exact rest cv (s1.heap.push o) s1.toks ps (Heap.ExtBut.refl _ _) (Nat.le_refl _) isP2 ⟨#[], by simp⟩ tr
/-- a row: where it lies, its first part, where its second part lies, what that holds -/
abbrev Row := Addr × V × Addr × List V
abbrev row0 : Row := (0, .non, 0, [])
/-- v is a tuple of these rows -/
structure Rows_ (K : PySem.W.Frag) (H : Hp) (v : V) (rows : List Row) : Prop where
  at_ : ∃ t, v = .ref t ∧ SqT K H t (rows.map fun r => V.ref r.1)
  each : ∀ r ∈ rows, SqT K H r.1 [r.2.1, .ref r.2.2.1] ∧ SqT K H r.2.2.1 r.2.2.2 ∧ r.2.2.2.all flatV = true
def RRow (P : Addr) (K : PySem.W.Frag) (j : Nat) (σ : L2.St) (Q : VK) (v : V) (H1 : Hp) : Prop := ∃ (rows : List Row) (x0 : V), Rows_ K H1 v rows ∧ σ[j]? = some (some x0) ∧ flatV x0 = true ∧
  ∀ H2, GxR.Tabbed P H1 H2 → ∀ l, H2 l = none → Q (.ref l) (upd H2 l (.tup ((rows.filter fun r => inV x0 r.2.2.2).map fun r => r.2.1)))
def tRows (P : Addr) (te : TE) (K : PySem.W.Frag) (j : Nat) : TE := fun σ H Q => te σ H fun v H1 => GxR.TabG H1 P ∧ RRow P K j σ Q v H1
theorem rows_range (rows : List Row) : (List.range rows.length).map (fun i => rows.getD i row0) = rows := by
  apply List.ext_getElem
  · rw [List.length_map, List.length_range]
  · intro i h1 h2
    rw [List.getElem_map, List.getElem_range, List.getD_eq_getElem?_getD, List.getElem?_eq_getElem h2]
    rfl
theorem rows_vals {K : PySem.W.Frag} {X : Cx} {pins : List (Addr × Obj)} {σ : L2.St} {H : Hp} {s : Shared} (I : Inv X pins σ H s) : ∀ rows : List Row, (∀ r ∈ rows, SqT X.K H r.1 [r.2.1, .ref r.2.2.1]) → ∃ us : List Value, us.length = rows.length ∧
    ∀ i, i < rows.length → RelV (rows.getD i row0).2.1 (us.getD i .none) ∧ s.heap.IsTuple (rows.getD i row0).1 #[us.getD i .none, .ref (rows.getD i row0).2.2.1]
  | [], _ => ⟨[], rfl, fun i h => absurd h (Nat.not_lt_zero _)⟩
  | r :: rs, h => by
    obtain ⟨us, l, hu⟩ := rows_vals (K := K) I rs fun r' m => h r' (List.mem_cons_of_mem _ m)
    obtain ⟨its, vs, pl, _⟩ := I.tuple (h r List.mem_cons_self)
    cases vs with
    | cons r1 t1 =>
      cases t1 with
      | cons r2 t2 =>
        cases t2
        cases r2
        rename_i u0
        refine ⟨u0 :: us, by rw [List.length_cons, List.length_cons, l], fun i hi => ?_⟩
        cases i with
        | zero => exact ⟨r1, pl⟩
        | succ i => exact hu i (Nat.lt_of_succ_lt_succ hi)
theorem vals_of : ∀ {xs : List V} {us : List Value}, xs.length = us.length → (∀ (i : Nat) (u : Value), us[i]? = some u → ∃ x, xs[i]? = some x ∧ RelV x u) → Vals xs us
  | [], [], _, _ => .nil
  | x :: xs, u :: us, l, h => by
    obtain ⟨x', e, r⟩ := h 0 u rfl
    cases e
    exact .cons r (vals_of (Nat.succ.inj l) fun i v hv => h (i + 1) v hv)
  | [], _ :: _, l, _ => by cases l
  | _ :: _, [], l, _ => by cases l
theorem pe_tupG {c P : Addr} {iter : Expr} {xa xb o : Str} {j : Nat} {pa pb pt p pos gpos p1 p2 p3 p4 : Pos} {kt : Nat} {scope : Scope} {te : TE} {k : Nat}
    (hr : Room k X.A) (hg : Gl X "tuple") (hm : X.mg "tuple" = none) (TB : GxR.TabB X.base X.mg c P) (hcode : X.env.code = .ref c) (S : GxR.GenS X.env scope xa) (Sb : scope.names.lookup xb = some .local) (hab : xa ≠ xb) (hi : PE X iter te)
    (ho : scope.names.lookup o = some .free) (hj : X.N[j]? = some o) (hv : X.env.scope.names.lookup o = some .cell) (hc : X.env.kindOf o = some .cell) (clo : ∀ (cells : List (Str × Addr)) c, cells.lookup o = some c → (cloFrom cells scope.names []).lookup o = some c)
    (hs : ∀ v, genFold iter X.env v = pure v := by intro _; rfl) (hd : (xa == ("__debug__" : Str)) = false := by decide) (hdb : (xb == ("__debug__" : Str)) = false := by decide) (hd2 : (o == ("__debug__" : Str)) = false := by decide) (hd3 : (o == ("__classdict__" : Str)) = false := by decide)
    (he : starEach [.GeneratorExp (.Name xa p1) [⟨.Tuple [.Name xa pa, .Name xb pb] kt pt, iter, [.Compare (.Name o p2) [.In] [.Name xb p3] p4], 0⟩] scope gpos] X.env = (false, eval (.GeneratorExp (.Name xa p1) [⟨.Tuple [.Name xa pa, .Name xb pb] kt pt, iter, [.Compare (.Name o p2) [.In] [.Name xb p3] p4], 0⟩] scope gpos) X.env) :: starEach [] X.env := by rfl) :
    PE X (.Call (.Name "tuple" p) [.GeneratorExp (.Name xa p1) [⟨.Tuple [.Name xa pa, .Name xb pb] kt pt, iter, [.Compare (.Name o p2) [.In] [.Name xb p3] p4], 0⟩] scope gpos] [] pos) (tRows P te X.K j) := by
  constructor
  intro pins s σ H Q I h
  apply wpAny_Call_Name_kw
  apply ld_blt I hg hm (show bootBuiltins "tuple" = some (.type "tuple") by decide +kernel)
  apply PyProof.Rows.callWith_type1 _ he (by rfl)
  rw [he]
  show wpAny _ _ (spliced ((false, eval (.GeneratorExp (.Name xa p1) [⟨.Tuple [.Name xa pa, .Name xb pb] kt pt, iter, [.Compare (.Name o p2) [.In] [.Name xb p3] p4], 0⟩] scope gpos) X.env) :: backTo pos (starEach [] X.env))) _ _ s
  apply Calls.spliced_cons
  apply gen_makeT (R := RRow P X.K j σ Q) hr TB hcode S Sb hab hi hs I h
  rintro v H1 s1 u ⟨rows, x0, ⟨⟨t, rfl, sq⟩, each⟩, hσ, f0, q⟩ ⟨ps, hP, _⟩ I1 ru ltP
  cases ru
  have isP : s1.heap.get? P = some { cls := .none, data := .fields ps } := I1.hok P _ hP
  have notP : ∀ b ob, s1.heap.get? b = some ob → (∀ z, ob.data ≠ .fields z) → b ≠ P := by
    intro b ob e nf z
    rw [z, isP] at e
    cases e
    exact nf _ rfl
  have tupP : ∀ b its, s1.heap.IsTuple b its → b ≠ P := by
    rintro b its ⟨ob, e, _, m, hd⟩
    exact notP b ob e fun z e2 => by rw [hd] at e2; cases e2
  obtain ⟨its, vs, pl, small⟩ := I1.tuple sq
  have plT : s1.heap.IsTuple t its.toArray := pl
  have li := vals_len vs
  rw [List.length_map] at li small
  obtain ⟨us, lu, hu⟩ := rows_vals (K := X.K) I1 rows fun r m => (each r m).1
  have mem : ∀ i, i < rows.length → rows.getD i row0 ∈ rows := by
    intro i hi
    rw [List.getD_eq_getElem?_getD, List.getElem?_eq_getElem hi]
    exact List.getElem_mem hi
  obtain ⟨m, _, look⟩ := I1.loc
  obtain ⟨u0, r0, lk⟩ := look j o _ hj hσ (.inr (.inl hv))
  obtain ⟨cc, hcl, hcell⟩ : ∃ c, X.env.cells.lookup o = some c ∧ s1.heap.IsCell c (some u0) := by
    rcases lk with ⟨k1, _⟩ | ⟨_, k2⟩
    · rw [hc] at k1
      cases k1
    · exact k2
  have szT : its.toArray.size = rows.length := by rw [List.size_toArray, li]
  have itemAt : ∀ i, i < its.toArray.size → its.toArray[i]? = some (.ref (rows.getD i row0).1) := by
    intro i hi
    rw [szT] at hi
    have hi2 : i < its.length := by omega
    rw [List.getElem?_toArray, List.getElem?_eq_getElem hi2]
    obtain ⟨x, hx, rx⟩ := vals_at vs (List.getElem?_eq_getElem hi2)
    rw [List.getElem?_map, List.getElem?_eq_getElem hi] at hx
    cases hx
    have e : rows.getD i row0 = rows[i] := by
      rw [List.getD_eq_getElem?_getD, List.getElem?_eq_getElem hi]
      rfl
    rw [e]
    exact congrArg some rx
  have ltH : ∀ b its, s1.heap.IsTuple b its → b < s1.heap.objs.size := by
    rintro b its ⟨ob, e, _⟩
    exact Heap.lt_size e
  refine ⟨its.toArray.size, fun i v => i < its.toArray.size ∧ v = #[us.getD i .none, .ref (rows.getD i row0).2.2.1], fun i => inV x0 (rows.getD i row0).2.2.2, fun i y => i < its.toArray.size ∧ y = us.getD i .none, ?_, ?_, ?_, ?_⟩
  · intro A E Q h hh
    apply wpAny_pyIter_tuple plT
    refine h _ _ _ _ (fun A' hA => walks_pairs hA _ t (Nat.ne_of_lt (ltH _ _ plT)) its.toArray (fun i => (rows.getD i row0).1) (fun i => #[us.getD i .none, .ref (rows.getD i row0).2.2.1]) itemAt fun i hi => Nat.ne_of_lt (ltH _ _ (hu i (szT ▸ hi)).2)) ⟨⟨_, Heap.get?_push_size _ rfl, rfl, rfl⟩, plT.push _, fun i hi => (hu i (szT ▸ hi)).2.push _⟩ ?_
    intro b hb
    rcases List.mem_cons.mp hb with rfl | z
    · exact ⟨Nat.le_refl _, fun e => Nat.lt_irrefl _ (e ▸ ltP)⟩
    · rcases List.mem_cons.mp z with rfl | z
      · exact ⟨Nat.le_of_lt (ltH _ _ plT), tupP _ _ plT⟩
      · obtain ⟨i, mi, rfl⟩ := List.mem_map.mp z
        have hi := List.mem_range.mp mi
        rw [szT] at hi
        exact ⟨Nat.le_of_lt (ltH _ _ (hu i hi).2), tupP _ _ (hu i hi).2⟩
  · rintro i vals ⟨_, rfl⟩
    exact ⟨_, _, rfl⟩
  · intro cenv A' E' i va vb s2 m2 e1 e2 e3 e4 hh hv2 hn hma hmb keep
    obtain ⟨hi, ev⟩ := hv2
    have eva : va = us.getD i .none := by
      have := congrArg (fun a : Array Value => a[0]?) ev
      exact Option.some.inj this
    have evb : vb = .ref (rows.getD i row0).2.2.1 := by
      have := congrArg (fun a : Array Value => a[1]?) ev
      exact Option.some.inj this
    subst eva evb
    have hi2 : i < rows.length := szT ▸ hi
    have kf : cenv.scope.kind = .function := by rw [e1]; exact S.kind
    have cell2 : s2.heap.IsCell cc (some u0) := by
      obtain ⟨ob, e, hd⟩ := hcell
      refine ⟨ob, keep cc ob ?_ e, hd⟩
      exact notP cc ob e fun z e2 => by rw [hd] at e2; cases e2
    obtain ⟨_, sq2, fl⟩ := each _ (mem i hi2)
    obtain ⟨js, r2, pl2, _⟩ := I1.tuple sq2
    have pl3 : s1.heap.IsTuple (rows.getD i row0).2.2.1 js.toArray := pl2
    have l2 : s2.heap.IsTuple (rows.getD i row0).2.2.1 js.toArray := pl3.at fun ob e => keep _ ob (tupP _ _ pl3) e
    constructor
    · simp only [List.forIn_cons, List.forIn_nil]
      refine wpAny_bind ?_
      simp only [if_pos]
      refine wpAny_bind ?_
      refine wpAny_isTrue_Compare1 ?_ (hm := rfl)
      refine wpAny_Name (wpAny_loadName_free kf (show cenv.scope.names.lookup o = some .free by rw [e1]; exact ho) (by rw [e4]; exact clo _ _ hcl) cell2 ?_ hd3) hd2
      refine wpAny_Name (wpAny_loadName_local kf (show cenv.scope.names.lookup xb = some .local by rw [e1]; exact Sb) hn hmb ?_) hdb
      refine SeqAt.in_tupleAt (eqU x0) l2 (fun w hw => mem_eqAt r0 f0 r2 fl w (by simpa using hw)) ?_
      apply wpAny_truthy_bool
      refine wpAny_pure (wpAny_pure ⟨?_, GxR.keeps_refl _⟩)
      rw [show js.toArray.any (eqU x0) = js.any (eqU x0) by simp, any_eqU r2 fl]
      rfl
    · intro _
      exact wpAny_Name (wpAny_loadName_local kf (show cenv.scope.names.lookup xa = some .local by rw [e1]; exact S.loc) hn hma ⟨⟨hi, rfl⟩, GxR.keeps_refl _⟩) hd
  · rintro g s5 ⟨fp, wr, G, go, W, hT, st, hfp, hI, inv⟩
    apply Calls.spliced_nil
    refine call_tuple_gen W hT st hfp hI (fun s' acc mv items => ?_) ?_
    · obtain ⟨H2, tb, J⟩ := inv s' mv
      have ep : (rows.filter fun r => inV x0 r.2.2.2).map (fun r => r.2.1) = (passing (fun i => inV x0 (rows.getD i row0).2.2.2) its.toArray.size 0).map fun i => (rows.getD i row0).2.1 := by
        conv => lhs; rw [← rows_range rows]
        rw [List.filter_map, List.map_map, szT]
        rfl
      have rel : Vals ((rows.filter fun r => inV x0 r.2.2.2).map fun r => r.2.1) acc.toList := by
        rw [ep]
        refine vals_of (by rw [List.length_map]; exact items.1.symm.trans Array.length_toList.symm) ?_
        intro i u hu1
        rw [Array.getElem?_toList] at hu1
        obtain ⟨i', hp, hlt, rfl⟩ := items.2 i u hu1
        refine ⟨_, by rw [List.getElem?_map, hp]; rfl, (hu i' (szT ▸ hlt)).1⟩
      have I2 : Inv X pins σ (upd H2 s'.heap.objs.size (.tup ((rows.filter fun r => inV x0 r.2.2.2).map fun r => r.2.1))) { s' with heap := s'.heap.push { cls := .type "tuple", data := .seq acc } } := by
        refine J.laid (t' := s'.toks) (fun b o e => Heap.get?_push_of_some _ e) (Nat.le_refl _) (show ObjOk X.prog X.w _ _ _ (.tup _) from ⟨?_, acc.toList, rel, ?_⟩)
        · rw [List.length_map]
          exact Nat.le_trans (List.length_filter_le _ _) small
        · rw [Array.toArray_toList]
          exact IsTup.new _ _
      exact ⟨.ref s'.heap.objs.size, _, I2, rfl, q H2 tb _ (J.hok.fresh (Nat.le_refl _))⟩
    · unfold passing
      refine Nat.le_trans (List.length_filter_le _ _) ?_
      rw [List.drop_zero, List.length_range, szT]
      exact small
end
end Cu

namespace Cu
open PySem PySem.Spec PyProof.Rows L2
open PySem.AutoSeq1 (wpAny_loadPart')
/-! ### list.extend(tuple) -/
theorem extend_tuple (l : Addr) (items : Array Value) (n : Nat) (b : Addr) (items2 : Array Value) (n2 : Nat) (dd : Option Addr) (sl : Array (Option Value)) (hs0 : ¬(!items.isEmpty && Builtin.List.listTooLong (items.size + items2.size)) = true) (hs1 : items.size ≤ sizeLine) (hs2 : items.size + items2.size ≤ sizeLine + 1) :
    Meets (Builtin.«list.extend» ⟨[.ref l, .ref b], []⟩) (fun _ R s => s.heap.get? l = some { cls := .type "list", dict := none, data := .seq items n, slots := #[] } ∧ s.heap.get? b = some { cls := .type "tuple", dict := dd, data := .seq items2 n2, slots := sl } ∧ R (.ok (.ret Value.none)) { s with heap := s.heap.update l (Obj.mapSeq fun x => x ++ items2), toks := s.toks }) :=
  .of_wp fun prog w A R s h => by
    obtain ⟨hp, g, d, tk, os⟩ := s
    obtain ⟨hl, hb, h⟩ := h
    have t1 := PySem.AutoSeq1.sub_tuple_tuple
    have t2 := PySem.AutoSeq1.sub_tuple_list
    have fits : (items ++ items2).size ≤ sizeLine + 1 := by
      rw [Array.size_append]
      exact hs2
    wp_walk using (wpAny_updateSeq hl rfl (hz := hs1) (_hz' := fits)), wpAny_loadPart' hl, wpAny_loadPart' hb
    exact ⟨_, rfl, h⟩
section
variable {X : Cx}
def rExtT (K : PySem.W.Frag) : V → List V → Hp → VK → Prop := fun x vs H Q => ∃ l b xs zs, x = .ref l ∧ vs = [.ref b] ∧ H l = some (.lst xs) ∧ SqT K H b zs ∧ xs.length + zs.length ≤ sizeLine ∧ Q .non (upd H l (.lst (xs ++ zs)))
theorem mt_extT : MtM X "list.extend" (rExtT X.K) := by
  intro pins s σ H x vs v us Q I rx rv h
  obtain ⟨l, b, xs, zs, rfl, rfl, hH, hB, hz, q⟩ := h
  cases rx
  obtain ⟨u, rfl, ru⟩ := rv.one
  cases ru
  obtain ⟨z, its, n, r, hl, e⟩ := I.lstM hH
  obtain ⟨js, r2, ⟨⟨cls, dd, data, sl⟩, e2, hc, n2, hd⟩, _⟩ := I.tuple hB
  simp only at hc hd
  subst hc hd
  have l2 := vals_len r2
  have room : its.toArray.size + js.toArray.size ≤ sizeLine := by
    rw [List.size_toArray, List.size_toArray]
    omega
  have short : ¬ (!its.toArray.isEmpty && Builtin.List.listTooLong (its.toArray.size + js.toArray.size)) = true := by
    rw [notLongL room, Bool.and_false]
    exact Bool.false_ne_true
  refine call_meets F.slot_list_extend ⟨_, e, rfl⟩ F.entry_list_extend (F.args_list_extend_2 _ _) (extend_tuple l its.toArray n b js.toArray n2 dd sl short (by rw [List.size_toArray]; omega) (by omega)) ⟨e, e2, ?_⟩
  refine ⟨.non, _, I.lset (its' := its ++ js) hH e (by simp) (r.append r2) ?_, rfl, q⟩
  rw [List.length_append]
  omega
end
end Cu

namespace Cu
open PySem PySem.Spec PyProof.Rows L2
/-! ### what is taken, one after another: by itself, or since it meets something taken before -/
section
variable {α : Type}
def pick1 (p : α → Bool) (t : α → α → Bool) (fs : List α) (r : α) : List α := if p r || fs.any (t r) then fs ++ [r] else fs
def pick (p : α → Bool) (t : α → α → Bool) (l : List α) : List α := l.foldl (pick1 p t) []
theorem pick_snoc (p : α → Bool) (t : α → α → Bool) (l : List α) (r : α) : pick p t (l ++ [r]) = pick1 p t (pick p t l) r := by
  unfold pick
  rw [List.foldl_append]
  rfl
/-- from x to y, each step to something later that meets the one before -/
inductive Path (t : α → α → Bool) : List α → α → α → Prop
  | here (l : List α) (r : α) : Path t (l ++ [r]) r r
  | next {l : List α} {x y : α} (r : α) : Path t l x y → t r y = true → Path t (l ++ [r]) x r
  | keep {l : List α} {x y : α} (r : α) : Path t l x y → Path t (l ++ [r]) x y
theorem snoc_ind {C : List α → Prop} (h0 : C []) (h1 : ∀ l r, C l → C (l ++ [r])) (l : List α) : C l := by
  rw [← List.reverse_reverse l]
  induction l.reverse with
  | nil => exact h0
  | cons r s ih =>
    rw [List.reverse_cons]
    exact h1 _ _ ih
theorem path_nil {t : α → α → Bool} {x y : α} (h : Path t [] x y) : False := by
  generalize e : ([] : List α) = l at h
  cases h with
  | here l r => exact absurd e.symm (by simp)
  | next r _ _ => exact absurd e.symm (by simp)
  | keep r _ => exact absurd e.symm (by simp)
theorem path_snoc {t : α → α → Bool} {l : List α} {r x y : α} (h : Path t (l ++ [r]) x y) : (x = r ∧ y = r) ∨ (y = r ∧ ∃ z, Path t l x z ∧ t r z = true) ∨ Path t l x y := by
  generalize e : l ++ [r] = l2 at h
  cases h with
  | here l' r' =>
    obtain ⟨_, e2⟩ := List.append_inj' e rfl
    cases e2
    exact .inl ⟨rfl, rfl⟩
  | next r' h1 h2 =>
    obtain ⟨e1, e2⟩ := List.append_inj' e rfl
    cases e2
    subst e1
    exact .inr (.inl ⟨rfl, _, h1, h2⟩)
  | keep r' h1 =>
    obtain ⟨e1, e2⟩ := List.append_inj' e rfl
    subst e1
    exact .inr (.inr h1)
theorem path_mem {t : α → α → Bool} {l : List α} {x y : α} (h : Path t l x y) : x ∈ l ∧ y ∈ l := by
  induction h with
  | here l r => exact ⟨by simp, by simp⟩
  | next r _ _ ih => exact ⟨List.mem_append_left _ ih.1, by simp⟩
  | keep r _ ih => exact ⟨List.mem_append_left _ ih.1, List.mem_append_left _ ih.2⟩
theorem mem_pick (p : α → Bool) (t : α → α → Bool) (l : List α) : ∀ y, y ∈ pick p t l ↔ ∃ x, p x = true ∧ Path t l x y := by
  induction l using snoc_ind with
  | h0 =>
    intro y
    constructor
    · intro h
      cases h
    · rintro ⟨x, _, h⟩
      exact absurd h path_nil
  | h1 l r ih =>
    intro y
    rw [pick_snoc]
    unfold pick1
    constructor
    · intro h
      split at h
      · rename_i hb
        rcases List.mem_append.mp h with h | h
        · obtain ⟨x, px, h⟩ := (ih y).mp h
          exact ⟨x, px, .keep r h⟩
        · rw [List.mem_singleton.mp h]
          rcases (Bool.or_eq_true _ _).mp hb with hb | hb
          · exact ⟨r, hb, .here l r⟩
          · obtain ⟨z, mz, tz⟩ := List.any_eq_true.mp hb
            obtain ⟨x, px, h⟩ := (ih z).mp mz
            exact ⟨x, px, .next r h tz⟩
      · obtain ⟨x, px, h⟩ := (ih y).mp h
        exact ⟨x, px, .keep r h⟩
    · rintro ⟨x, px, h⟩
      rcases path_snoc h with ⟨rfl, rfl⟩ | ⟨rfl, z, hz, tz⟩ | h
      · rw [if_pos (by rw [px]; rfl)]
        exact List.mem_append_right _ (List.mem_singleton.mpr rfl)
      · rw [if_pos (by rw [List.any_eq_true.mpr ⟨z, (ih z).mpr ⟨x, px, hz⟩, tz⟩, Bool.or_true])]
        exact List.mem_append_right _ (List.mem_singleton.mpr rfl)
      · have m := (ih y).mpr ⟨x, px, h⟩
        split
        · exact List.mem_append_left _ m
        · exact m
theorem pick_sub (p : α → Bool) (t : α → α → Bool) (l : List α) : (pick p t l).Sublist l := by
  induction l using snoc_ind with
  | h0 => exact List.Sublist.slnil
  | h1 l r ih =>
    rw [pick_snoc]
    unfold pick1
    split
    · exact ih.append (List.Sublist.refl _)
    · exact ih.trans (List.sublist_append_left _ _)
theorem path_cons {t : α → α → Bool} {l : List α} {x y : α} (r : α) (h : Path t l x y) : Path t (r :: l) x y := by
  induction h with
  | here l r' => exact .here (r :: l) r'
  | next r' _ h2 ih => exact .next (l := r :: _) r' ih h2
  | keep r' _ ih => exact .keep (l := r :: _) r' ih
theorem path_head {t : α → α → Bool} (r : α) (l : List α) : Path t (r :: l) r r := by
  induction l using snoc_ind with
  | h0 => exact .here [] r
  | h1 l r' ih => exact .keep (l := r :: l) r' ih
theorem path_first {t : α → α → Bool} {l : List α} {y z : α} (r : α) (h : Path t l y z) (e : t y r = true) : Path t (r :: l) r z := by
  induction h with
  | here l r' => exact .next (l := r :: l) r' (path_head r l) e
  | next r' _ h2 ih => exact .next (l := r :: _) r' (ih e) h2
  | keep r' _ ih => exact .keep (l := r :: _) r' (ih e)
/-- back again -/
theorem path_rev {t : α → α → Bool} {l : List α} {x y : α} (h : Path t l x y) : Path (fun a b => t b a) l.reverse y x := by
  induction h with
  | here l r =>
    rw [List.reverse_append]
    exact path_head r _
  | next r _ h2 ih =>
    rw [List.reverse_append]
    exact path_first r ih h2
  | keep r _ ih =>
    rw [List.reverse_append]
    exact path_cons r ih
theorem path_trans {t : α → α → Bool} {l : List α} (nd : l.Nodup) : ∀ {x y z : α}, Path t l x y → Path t l y z → Path t l x z := by
  induction l using snoc_ind with
  | h0 =>
    intro x y z h
    exact absurd h path_nil
  | h1 l r ih =>
    intro x y z h1 h2
    have out : r ∉ l := fun m => by
      have := (List.nodup_append.mp nd).2.2 r m r (List.mem_singleton.mpr rfl)
      exact this rfl
    have nd' := (List.nodup_append.mp nd).1
    rcases path_snoc h2 with ⟨rfl, rfl⟩ | ⟨rfl, w, hw, tw⟩ | h3
    · exact h1
    · rcases path_snoc h1 with ⟨_, rfl⟩ | ⟨rfl, _⟩ | h1
      · exact absurd (path_mem hw).1 out
      · exact absurd (path_mem hw).1 out
      · exact .next _ (ih nd' h1 hw) tw
    · rcases path_snoc h1 with ⟨_, rfl⟩ | ⟨rfl, _⟩ | h1
      · exact absurd (path_mem h3).1 out
      · exact absurd (path_mem h3).1 out
      · exact .keep _ (ih nd' h1 h3)
/-- two sublists of a list without doubles, with the same members, are the same -/
theorem sub_ext : ∀ {l a b : List α}, l.Nodup → a.Sublist l → b.Sublist l → (∀ x, x ∈ a ↔ x ∈ b) → a = b
  | [], a, b, _, ha, hb, _ => by
    rw [List.sublist_nil.mp ha, List.sublist_nil.mp hb]
  | r :: l, a, b, nd, ha, hb, h => by
    have out := (List.nodup_cons.mp nd).1
    have nd' := (List.nodup_cons.mp nd).2
    cases ha with
    | cons _ ha =>
      cases hb with
      | cons _ hb => exact sub_ext nd' ha hb h
      | cons_cons _ hb => exact absurd (ha.subset ((h r).mpr List.mem_cons_self)) out
    | cons_cons _ ha =>
      cases hb with
      | cons _ hb => exact absurd (hb.subset ((h r).mp List.mem_cons_self)) out
      | cons_cons _ hb =>
        rename_i a' b'
        have : a' = b' := sub_ext nd' ha hb fun x => by
          constructor
          · intro m
            rcases List.mem_cons.mp ((h x).mp (List.mem_cons_of_mem _ m)) with e | e
            · rw [e] at m
              exact absurd (ha.subset m) out
            · exact e
          · intro m
            rcases List.mem_cons.mp ((h x).mpr (List.mem_cons_of_mem _ m)) with e | e
            · rw [e] at m
              exact absurd (hb.subset m) out
            · exact e
        rw [this]
/-- once more over what was taken -/
theorem pick_again (p p2 : α → Bool) (t : α → α → Bool) (l : List α) (nd : l.Nodup) (h : ∀ r ∈ l, p2 r = true ↔ r ∈ pick p t l) : pick p2 t l = pick p t l := by
  refine sub_ext nd (pick_sub _ _ _) (pick_sub _ _ _) fun y => ?_
  rw [mem_pick, mem_pick]
  constructor
  · rintro ⟨x, px, hx⟩
    obtain ⟨x', px', hx'⟩ := (mem_pick p t l x).mp ((h x (path_mem hx).1).mp px)
    exact ⟨x', px', path_trans nd hx' hx⟩
  · rintro ⟨x, px, hx⟩
    have my := (path_mem hx).2
    have xx : Path t l x x := by
      obtain ⟨a, b, e⟩ := List.append_of_mem (path_mem hx).1
      rw [e]
      clear e
      induction b using snoc_ind with
      | h0 => exact .here a x
      | h1 b r ih =>
        rw [show a ++ x :: (b ++ [r]) = (a ++ x :: b) ++ [r] by simp]
        exact .keep r ih
    exact ⟨x, (h x (path_mem hx).1).mpr ((mem_pick p t l x).mpr ⟨x, px, xx⟩), hx⟩
theorem pick_or (p q : α → Bool) (t : α → α → Bool) (l : List α) (y : α) : y ∈ pick (fun r => p r || q r) t l ↔ y ∈ pick p t l ∨ y ∈ pick q t l := by
  rw [mem_pick, mem_pick, mem_pick]
  constructor
  · rintro ⟨x, px, h⟩
    rcases (Bool.or_eq_true _ _).mp px with px | px
    · exact .inl ⟨x, px, h⟩
    · exact .inr ⟨x, px, h⟩
  · rintro (⟨x, px, h⟩ | ⟨x, px, h⟩)
    · exact ⟨x, by rw [px]; rfl, h⟩
    · exact ⟨x, by rw [px, Bool.or_true], h⟩
end
end Cu

namespace Cu
open PySem PySem.Spec PyProof.Rows L2
theorem same_both {F H : Hp} {p : Addr} {o : HO} (s : Same F H) (n : H p = none) : Same (upd F p o) (upd H p o) := fun b x e => by
  by_cases z : b = p
  · subst z
    rw [upd_same] at e ⊢
    exact e
  · rw [upd_ne z] at e ⊢
    exact s b x e
/-! ### what is made beside the hand a: F grows by new objects alone -/
structure Mk (a : Addr) (F H F' H' : Hp) : Prop where
  upto : Upto a H H'
  live : ∃ o, H' a = some o
  sub : Same F' H'
  mono : Same F F'
  fresh : ∀ b o, H b = some o → F b = none → F' b = none
theorem Mk.trans {a : Addr} {F H F1 H1 F2 H2 : Hp} (x : Mk a F H F1 H1) (y : Mk a F1 H1 F2 H2) : Mk a F H F2 H2 := by
  refine ⟨x.upto.trans y.upto, y.live, y.sub, x.mono.trans y.mono, fun b o e n => ?_⟩
  have n1 := x.fresh b o e n
  by_cases z : b = a
  · obtain ⟨o1, e1⟩ := x.live
    exact y.fresh b o1 (z ▸ e1) n1
  · exact y.fresh b o (x.upto b o z e) n1
theorem Mk.draw {a : Addr} {F H H' : Hp} (s : Same F H) (u : Upto a H H') (l : ∃ o, H' a = some o) (fa : F a = none) : Mk a F H F H' :=
  ⟨u, l, same_upto s u fa, Same.refl _, fun _ _ _ n => n⟩
theorem Mk.refl {a : Addr} {F H : Hp} (s : Same F H) (l : ∃ o, H a = some o) : Mk a F H F H := ⟨.refl _ _, l, s, Same.refl _, fun _ _ _ n => n⟩
theorem Mk.new {a p : Addr} {F H : Hp} (o : HO) (s : Same F H) (l : ∃ o, H a = some o) (n : H p = none) : Mk a F H (upd F p o) (upd H p o) := by
  obtain ⟨oa, ea⟩ := l
  refine ⟨.new n, ⟨oa, (upd_ne (ne_of_none ea n)).trans ea⟩, same_both s n, same_upd (s.free n), fun b ob e nb => ?_⟩
  rw [upd_ne (ne_of_none e n)]
  exact nb
theorem Mk.skip {a p : Addr} {F H : Hp} (o : HO) (s : Same F H) (l : ∃ o, H a = some o) (n : H p = none) : Mk a F H F (upd H p o) := by
  obtain ⟨oa, ea⟩ := l
  exact ⟨.new n, ⟨oa, (upd_ne (ne_of_none ea n)).trans ea⟩, s.trans (same_upd n), Same.refl _, fun b ob e nb => nb⟩
theorem Mk.fa {a : Addr} {F H F' H' : Hp} (m : Mk a F H F' H') (l : ∃ o, H a = some o) (fa : F a = none) : F' a = none := by
  obtain ⟨o, e⟩ := l
  exact m.fresh a o e fa
end Cu

namespace Cu
open PySem PySem.Spec PyProof.Rows L2
/-! ### sets of texts -/
def txt (e : Int × Value) : Str := match e.2 with | .str k _ => k | _ => ""
def Tx (w : World) (e : Int × Value) : Prop := ∃ k tk, e.2 = Value.str k tk ∧ e.1 = hashStr w k
/-- entries and table of a set of texts: S says which, n how many -/
structure TT (w : World) (es : Array (Int × Value)) (t : SetTable) (S : Str → Bool) (n : Nat) : Prop where
  tx : ∀ e ∈ es.toList, Tx w e
  nd : (es.toList.map txt).Nodup
  mem : ∀ k, S k = true ↔ k ∈ es.toList.map txt
  few : es.size < scanBound
  fit : t.fits es.size = true
  num : es.size = n
  ris : Ris t.place.toList
  led : w.params.followText "set-order" = true ∨ t.led = true
def SetX (w : World) (h : Heap) (a : Addr) (S : Str → Bool) (n : Nat) : Prop := ∃ o es ep t, h.get? a = some o ∧ o.ExactSet ∧ o.data = .set es ep t ∧ TT w es t S n
section
variable {P : Program} {w : World} {h h' : Heap} {a : Addr} {S : Str → Bool} {n : Nat}
theorem SetX.at (x : SetX w h a S n) (k : ∀ o, h.get? a = some o → h'.get? a = some o) : SetX w h' a S n := by
  obtain ⟨o, es, ep, t, e, z⟩ := x
  exact ⟨o, es, ep, t, k o e, z⟩
theorem SetX.lt (x : SetX w h a S n) : a < h.objs.size := by
  obtain ⟨o, es, ep, t, e, z⟩ := x
  exact Heap.lt_size e
theorem SetX.is {S' : Str → Bool} (x : SetX w h a S n) (e : ∀ k, S' k = S k) : SetX w h a S' n := by
  rw [show S' = S from funext e]
  exact x
theorem tx_key {e : Int × Value} (x : Tx w e) (k : Str) : (PySem.strKind P w).is k e.2 = true ↔ txt e = k := by
  obtain ⟨k0, tk, e1, _⟩ := x
  unfold txt
  rw [e1]
  constructor
  · intro z
    exact (PySem.strKind P w).inj _ _ _ (PySem.strKind_is P w k0 tk) z
  · rintro rfl
    exact PySem.strKind_is P w k0 tk
theorem tx_elems {l : List (Int × Value)} (x : ∀ e ∈ l, Tx w e) : ElemsOf (PySem.strKind P w) l := fun e m => by
  obtain ⟨k, tk, e1, e2⟩ := x e m
  exact ⟨⟨k, (tx_key (x e m) k).mpr (by unfold txt; rw [e1]), e2⟩, by rw [e1]; rfl⟩
theorem tx_mem {l : List (Int × Value)} (x : ∀ e ∈ l, Tx w e) (k : Str) : k ∈ l.map txt ↔ ∃ e ∈ l, (PySem.strKind P w).is k e.2 = true := by
  rw [List.mem_map]
  exact ⟨fun ⟨e, m, q⟩ => ⟨e, m, (tx_key (x e m) k).mpr q⟩, fun ⟨e, m, q⟩ => ⟨e, m, (tx_key (x e m) k).mp q⟩⟩
theorem SetX.of (x : SetX w h a S n) : h.SetOf (PySem.strKind P w) a S n := by
  obtain ⟨o, es, ep, t, e, ex, ed, T⟩ := x
  exact ⟨o, es, ep, t, e, ex, ed, tx_elems T.tx, fun k => (T.mem k).trans (tx_mem T.tx k), T.few, T.fit, T.num⟩
/-- after relaying: the same texts -/
theorem TT.perm {es es' : Array (Int × Value)} {t t' : SetTable} (T : TT w es t S n) (p : es'.toList.Perm es.toList) (f : t'.fits es'.size = true) (r : Ris t'.place.toList) (l : w.params.followText "set-order" = true ∨ t'.led = true) : TT w es' t' S n := by
  have z : es'.size = es.size := by rw [← Array.length_toList, p.length_eq, Array.length_toList]
  exact ⟨fun e m => T.tx e (p.mem_iff.mp m), (p.map txt).nodup_iff.mpr T.nd, fun k => (T.mem k).trans (p.map txt).mem_iff.symm, z ▸ T.few, f, z.trans T.num, r, l⟩
end
section
variable {P : Program} {w : World} {A : Around} {E : Value → Shared → Prop} {s : Shared} {a : Addr} {S : Str → Bool} {n : Nat}
theorem addT_end {g : Bool → Sem Unit} (hg : ∀ (b : Bool) (s1 : Shared) (Z : Unit → Shared → Prop), Z () s1 → wpAny (model P w) A (g b) Z E s1)
    {o : Obj} {es : Array (Int × Value)} {ep : Nat} {t : SetTable} (e : s.heap.get? a = some o) (ex : o.ExactSet) (ed : o.data = .set es ep t)
    {fs : Array (Int × Value)} {u : SetTable} (T : TT w fs u S n) {dum : Bool} {R : Option Bool → Shared → Prop}
    (hR : ∀ h', Heap.SameBut a s.heap h' → SetX w h' a S n → R (some true) { s with heap := h' }) :
    wpAny (model P w) A (do
        storeSet a fs u
        if (!dum && u.tooFull) = true then do
            g (relayAll u fs (SetTable.grown fs.size)).2.2
            storeSet a (relayAll u fs (SetTable.grown fs.size)).1 (relayAll u fs (SetTable.grown fs.size)).2.1
            pure (some true)
          else pure (some true)) R E s := by
  refine wpAny_bind (wpAny_storeSet_of e ed ?_ (fits_of_scanBound T.few))
  have e1 := store_at (es' := fs) (t' := u) e ed
  have b1 := Heap.SameBut.update s.heap a (Obj.putSet fs u)
  split
  · have p := relayAll_perm u fs (SetTable.grown fs.size)
    have f := relayAll_fits u fs (SetTable.grown fs.size)
    have r := relayAll_ris u fs (SetTable.grown fs.size)
    have l := relayAll_led u fs (SetTable.grown fs.size)
    generalize relayAll u fs (SetTable.grown fs.size) = Z at p f r l ⊢
    obtain ⟨gs, v, gave⟩ := Z
    dsimp only at p f r l ⊢
    have T2 := T.perm p f r (T.led.imp id fun z => by rw [l]; exact z)
    refine wpAny_bind (hg _ _ _ ?_)
    refine wpAny_bind (wpAny_storeSet_of e1 rfl ?_ (fits_of_scanBound T2.few))
    have e2 := store_at (es' := gs) (t' := v) e1 rfl
    exact wpAny_pure (hR _ (b1.trans (Heap.SameBut.update _ a _)) ⟨_, gs, _, v, e2, ex, rfl, T2⟩)
  · exact wpAny_pure (hR _ b1 ⟨_, fs, _, u, e1, ex, rfl, T⟩)
theorem addT {k : Str} {tk : Tok} {Q : Bool → Shared → Prop} (x : SetX w s.heap a S n) (room : n + 1 < scanBound)
    (q : ∀ h', Heap.SameBut a s.heap h' → SetX w h' a (fun j => S j || decide (j = k)) (if S k = true then n else n + 1) → Q (!S k) { s with heap := h' }) :
    wpAny (model P w) A (setAddHashed a (.str k tk) (hashStr w k)) Q E s := by
  obtain ⟨o, es, ep, t, e, ex, ed, T⟩ := x
  have key : (PySem.strKind P w).is k (.str k tk) = true := PySem.strKind_is P w k tk
  have el : ElemsOf (PySem.strKind P w) es.toList := tx_elems T.tx
  unfold setAddHashed setAddHashedIn
  refine wpAny_holding (wpAny_bind (wpAny_setState_of e ed T.fit ?_))
  dsimp only
  rw [byScan_of rfl T.few el]
  simp only [↓reduceIte]
  unfold setAddByScan
  refine wpAny_bind ?_
  refine wpAny_bind (wpAny_rule ?_)
  refine wpAny_bind (wpAny_setScan_of (knd := PySem.strKind P w) (k := k) key e ed T.fit el ?_)
  cases fi : List.findIdx? (fun e => (PySem.strKind P w).is k e.2) es.toList with
  | some j =>
    dsimp only
    obtain ⟨hj, pj, _⟩ := List.findIdx?_eq_some_iff_getElem.mp fi
    have sk : S k = true := (T.mem k).mpr ((tx_mem (P := P) T.tx k).mpr ⟨es.toList[j], List.getElem_mem hj, pj⟩)
    refine wpAny_pure (wpAny_pure ?_)
    have z := q s.heap (Heap.SameBut.refl a s.heap) ⟨o, es, ep, t, e, ex, ed, T.tx, T.nd, fun i => by
      rw [Bool.or_eq_true, decide_eq_true_eq, ← T.mem i]
      exact ⟨fun y => y.elim id (fun ei => ei ▸ sk), .inl⟩, T.few, T.fit, by rw [if_pos sk]; exact T.num, T.ris, T.led⟩
    rw [sk] at z
    exact z
  | none =>
    dsimp only
    have out : k ∉ es.toList.map txt := fun z => by
      obtain ⟨y, m, qy⟩ := (tx_mem (P := P) T.tx k).mp z
      have c := List.findIdx?_eq_none_iff.mp fi y m
      rw [qy] at c
      cases c
    have sk : S k = false := by
      cases z : S k with
      | false => rfl
      | true => exact absurd ((T.mem k).mp z) out
    have way : ∀ (b : Bool) {s1 : Shared} {Z : Unit → Shared → Prop}, Z () s1 → wpAny (model P w) A (match b with | true => rule "set.scan.the-table-gave-way" | false => pure ()) Z E s1 :=
      fun b s1 Z y => by cases b <;> first | exact wpAny_pure y | exact wpAny_rule y
    have p := layNew_perm t es (hashStr w k) (.str k tk)
    have f := layNew_fits t es (hashStr w k) (.str k tk)
    have r := layNew_ris t es (hashStr w k) (.str k tk) T.ris
    have l := layNew_led t es (hashStr w k) (.str k tk)
    show wpAny _ _ (match (layNew t es (hashStr w k) (.str k tk)) with | _ => _) _ _ _
    generalize layNew t es (hashStr w k) (.str k tk) = Z at p f r l ⊢
    obtain ⟨fs, u, dum, gave⟩ := Z
    dsimp only at p f r l ⊢
    rw [Array.toList_push] at p
    have pc : fs.toList.Perm ((hashStr w k, Value.str k tk) :: es.toList) := p.trans (List.perm_append_singleton _ _)
    have pk : (fs.toList.map txt).Perm (k :: es.toList.map txt) := pc.map txt
    have sz : fs.size = n + 1 := by rw [← Array.length_toList, pc.length_eq, List.length_cons, Array.length_toList, T.num]
    have T1 : ∀ v : SetTable, v.fits fs.size = true → Ris v.place.toList → (w.params.followText "set-order" = true ∨ v.led = true) → TT w fs v (fun j => S j || decide (j = k)) (n + 1) := fun v a1 a2 a3 =>
      ⟨fun y m => by
        rcases List.mem_cons.mp (pc.mem_iff.mp m) with z | z
        · rw [z]
          exact ⟨k, tk, rfl, rfl⟩
        · exact T.tx y z, pk.nodup_iff.mpr (List.nodup_cons.mpr ⟨out, T.nd⟩), fun i => by
        rw [Bool.or_eq_true, decide_eq_true_eq, T.mem i, pk.mem_iff, List.mem_cons]
        exact Or.comm, by rw [sz]; exact room, a1, sz, a2, a3⟩
    have ld : w.params.followText "set-order" = true ∨ u.led = true := T.led.imp id fun z => by rw [l]; exact z
    have fin : ∀ h', Heap.SameBut a s.heap h' → SetX w h' a (fun j => S j || decide (j = k)) (n + 1) → Q true { s with heap := h' } := fun h' b y => by
      have z := q h' b
      rw [sk] at z
      exact z y
    refine wpAny_bind (way _ ?_)
    split
    · refine wpAny_bind ?_
      rw [hashByValue_scannable 8 (x := Value.str k tk) rfl]
      refine wpAny_pure ?_
      refine addT_end (n := n + 1) ?_ e ex ed (T1 _ (SetTable.fits_plain_off f) r ld) ?_
      · intro b s1 Z y
        cases b <;> first | exact wpAny_pure y | exact wpAny_rule y
      · intro h' b y
        dsimp only
        exact wpAny_pure (fin h' b y)
    · refine wpAny_bind (wpAny_pure ?_)
      simp only [↓reduceIte]
      refine addT_end (n := n + 1) ?_ e ex ed (T1 _ f r ld) ?_
      · intro b s1 Z y
        cases b <;> first | exact wpAny_pure y | exact wpAny_rule y
      · intro h' b y
        dsimp only
        exact wpAny_pure (fin h' b y)
end
/-! ### filling -/
/-- the set at S holds the first i of xs -/
def HoldX (w : World) (h : Heap) (S : Addr) (xs : List Str) (i : Nat) : Prop := ∃ c, SetX w h S (fun k => decide (k ∈ xs.take i)) c ∧ c ≤ i ∧ ((xs.take i).Nodup → c = i)
theorem HoldX.at {w : World} {h h' : Heap} {S : Addr} {xs : List Str} {i : Nat} (x : HoldX w h S xs i) (k : ∀ o, h.get? S = some o → h'.get? S = some o) : HoldX w h' S xs i := by
  obtain ⟨c, y, l⟩ := x
  exact ⟨c, y.at k, l⟩
section
variable {prog : Program} {w : World} {A : Around} {R : Result → Shared → Prop} {I : Addr} {fp wr : List Addr} {G : Array GenState → Array GenState → Prop} {n : Nat} {P : Nat → Value → Prop} {St : Nat → Shared → Prop}
theorem fillX (W : WalksS prog w A.in1 I fp wr G n P St) (S : Addr) (out : S ∉ fp) (xs : List Str) (sz : xs.length = n) (few : n + 1 < scanBound) (val : ∀ i v, P i v → ∃ x t, xs[i]? = some x ∧ v = .str x t) :
    ∀ (k i : Nat) (s : Shared), n - i = k → i ≤ n → St i s → HoldX w s.heap S xs i → (∀ s', Moved (S :: wr) G s s' → HoldX w s'.heap S xs n → R (.ok (.ret .none)) s') →
      codeAny (model prog w) A (.builtin "set.update.loop" ⟨[.ref S, .ref I], []⟩) R s := by
  have outw : S ∉ wr := fun m => out (W.sub _ m)
  have more : ∀ b ∈ wr, b ∈ S :: wr := fun b m => List.mem_cons_of_mem _ m
  intro k
  induction k with
  | zero =>
    intro i s e le st hS q
    obtain rfl : i = n := by omega
    refine codeAny_builtin PyProof.Rows.F.entry_set_update_loop ?_
    rw [Around.under_plainId PyProof.Rows.F.plain_set_update_loop _]
    refine wpAny_bind (m := pyNext (.ref I)) (W.done s _ _ st fun s' mv => ?_)
    exact wpAny_pure (q s' (mv.mono more) (hS.at fun o e => mv.heap S o outw e))
  | succ k ih =>
    intro i s e le st hS q
    have lt : i < n := by omega
    refine codeAny_builtin PyProof.Rows.F.entry_set_update_loop ?_
    rw [Around.under_plainId PyProof.Rows.F.plain_set_update_loop _]
    refine wpAny_bind (m := pyNext (.ref I)) (W.item i s _ _ lt st fun v s' hv st' mv => ?_)
    obtain ⟨x, t, hx, rfl⟩ := val i v hv
    obtain ⟨c, sc, cl, ce⟩ := hS.at (h' := s'.heap) fun o e => mv.heap S o outw e
    show wpAny _ A.in1 (holding [Value.str x t] (setAdd S (.str x t)) >>= _) _ _ s'
    refine wpAny_bind (wpAny_holding ?_)
    unfold setAdd
    refine wpAny_holding (wpAny_bind ((PySem.strKind prog w).pyHash (k := x) (PySem.strKind_is _ _ _ _) ?_))
    refine addT (s := { s' with toks := s'.toks + 1 }) sc (by omega) fun h' hsb sc2 => ?_
    have next : HoldX w h' S xs (i + 1) := by
      have tk : xs.take (i + 1) = xs.take i ++ [x] := by
        rw [List.take_add_one, hx]
        rfl
      have cg := sc2.is (S' := fun k => decide (k ∈ xs.take (i + 1))) (fun k' => by rw [tk]; simp)
      by_cases m : x ∈ xs.take i
      · rw [if_pos (decide_eq_true m)] at cg
        refine ⟨c, cg, by omega, fun nd => ?_⟩
        rw [tk] at nd
        exact absurd rfl ((List.nodup_append.mp nd).2.2 x m x (List.mem_singleton.mpr rfl))
      · rw [if_neg (by rw [decide_eq_false m]; exact Bool.false_ne_true)] at cg
        refine ⟨c + 1, cg, by omega, fun nd => ?_⟩
        rw [tk] at nd
        rw [ce (List.nodup_append.mp nd).1]
    refine wpAny_pure ⟨plainId_quiet PyProof.Rows.F.plain_set_update_loop _, ih (i + 1) _ (by omega) lt (W.frame _ s' _ _ st' (Nat.le_succ _) fun b mb o e => ?_) next fun s'' mv' hS' => ?_⟩
    · rw [hsb.2 b (fun z : b = S => out (z ▸ mb))]
      exact e
    · refine q s'' (Moved.trans W.gtrans ((mv.mono more).then_heap (Nat.le_succ _) fun b o nb e => ?_) mv') hS'
      rw [hsb.2 b (fun z : b = S => nb (z ▸ List.mem_cons_self))]
      exact e
end
end Cu

namespace Cu
open PySem PySem.Spec PyProof.Rows L2
/-! ### set(xs) of texts -/
abbrev setObj (w : World) : Obj := { cls := .type "set", dict := none, data := .set #[] 0 (.fresh 0 0 (!w.params.followText "set-order")) }
theorem hold_new {w : World} {h : Heap} {a : Addr} {xs : List Str} (e : h.get? a = some (setObj w)) : HoldX w h a xs 0 :=
  ⟨0, ⟨_, #[], 0, _, e, ⟨rfl, rfl, rfl⟩, rfl, fun _ m => by simp at m, by simp, fun k => by simp, by decide, rfl, rfl, List.Pairwise.nil, by
    show _ ∨ (!w.params.followText "set-order") = true
    cases w.params.followText "set-order"
    · exact .inr rfl
    · exact .inl rfl⟩, Nat.le_refl _, fun _ => rfl⟩
section
variable {P : Program} {w : World} {A : Around} {E : Value → Shared → Prop} {s : Shared}
theorem call_setX_tuple {l : Addr} {items : Array Value} (xs : List Str) {Q : Value → Shared → Prop} (calm : A.handled = none) (hl : s.heap.IsTuple l items) (hs : StrsAre items.toList xs) (few : xs.length + 1 < scanBound)
    (q : ∀ (h' : Heap) (tk : Nat), HoldX w h' s.heap.objs.size xs xs.length → (∀ b o, s.heap.get? b = some o → h'.get? b = some o) → Q (.ref s.heap.objs.size) { s with heap := h', toks := tk }) :
    wpAny (model P w) A (call (.type "set") [.ref l]) Q E s := by
  have sz : items.size = xs.length := by rw [← Array.length_toList, StrsAre.len_eq hs]
  obtain ⟨c, tl, m1⟩ := PySem.F.called_set.mro
  have m2 := PySem.F.called_set.made
  have m3 := PySem.F.called_set.sub
  refine wpAny_call (codeAny_of_tree ?_)
  show wpAny _ _ (callAny (.type "set") _) _ _ _
  refine wpAny_pure ⟨Code.quiet_builtin _ (by decide +kernel), codeAny_builtin PySem.F.entry_type_call ?_⟩
  rw [Around.under_plain (weight_type_call_type "set" [.ref l] []) rfl]
  have m4 := PySem.F.called_set.notType
  have m5 := PySem.F.called_set.canCreate
  have m6 := PySem.F.typeCall_set_1 (.ref l)
  repeat (any_goals (first | assumption | wp_step))
  refine codeAny_mono (L2.code_set_led1 (.ref l) (E := E) (Q₁ := fun y s1 => y = .ref s.heap.objs.size ∧ s1 = { s with heap := s.heap.push (setObj w) }) ⟨rfl, rfl⟩) fun r s1 hr => ?_
  cases r with
  | error e => exact hr
  | ok fl =>
    cases fl with
    | ret obj =>
      obtain ⟨rfl, rfl⟩ := hr
      have eS : (s.heap.push (setObj w)).get? s.heap.objs.size = some (setObj w) := Heap.get?_push_size _ rfl
      have tS : Shared.TypeIs { s with heap := s.heap.push (setObj w) } (.ref s.heap.objs.size) "set" := ⟨_, eS, rfl⟩
      have i1 := PySem.F.called_set.init.lookup
      have i2 := PySem.F.called_set.init.bind (.ref s.heap.objs.size)
      repeat (any_goals (first | assumption | wp_step))
      refine codeAny_mono (codeAny_call_builtin (R := wants (fun r s2 => r = .none ∧ ∃ h' tk, s2 = { s with heap := h', toks := tk } ∧ HoldX w h' s.heap.objs.size xs xs.length ∧ ∀ b o, s.heap.get? b = some o → h'.get? b = some o) E) PySem.F.called_set.init.plain PySem.F.entry_set_init (check_set_init_1 tS ?_)) fun r2 s2 hr2 => ?_
      · obtain ⟨⟨oc, od, odt, osl⟩, el, hc, nl, hd⟩ := hl
        simp only at hc hd
        subst hc
        subst hd
        have el1 : (s.heap.push (setObj w)).get? l = some { cls := .type "tuple", dict := od, data := .seq items nl, slots := osl } := Heap.get?_push_of_some _ el
        have n1 := PySem.F.sub_tuple_set
        have n2 := PySem.F.sub_tuple_frozenset
        have n3 : (Value.type "tuple" == Value.type "dict") = false := by decide
        have il : (s.heap.push (setObj w)).IsTuple l items := ⟨_, el1, rfl, nl, rfl⟩
        unfold Builtin.«set.__init__» noKeywords Builtin.Frozenset.updateFrom
        generalize hPI : pyIter = PI
        wp_walk
        subst hPI
        refine wpAny_pyIter_tuple il ?_
        refine wpAny_bind (wpAny_runValue ?_)
        have lS : l < s.heap.objs.size := Heap.lt_size el
        have calm3 : A.in1.in1.in1.handled = none := by simp [calm]
        have z1 : (s.heap.push (setObj w)).objs.size = s.heap.objs.size + 1 := Heap.size_push ..
        have lI : l ≠ (s.heap.push (setObj w)).objs.size := by
          rw [z1]
          exact Nat.ne_of_lt (Nat.lt_succ_of_lt lS)
        have out : s.heap.objs.size ∉ [(s.heap.push (setObj w)).objs.size, l] := by
          rw [z1]
          intro m
          rcases List.mem_cons.mp m with z | z
          · exact absurd z (Nat.ne_of_lt (Nat.lt_succ_self _))
          · have z' := List.mem_singleton.mp z
            rw [← z'] at lS
            exact Nat.lt_irrefl _ lS
        have val : ∀ (i : Nat) (v : Value), items[i]? = some v → ∃ x t, xs[i]? = some x ∧ v = .str x t := fun i v hv => by
          have hi : i < xs.length := by rw [← sz]; exact (Array.getElem?_eq_some_iff.mp hv).1
          obtain ⟨t, e⟩ := SS.strs_at hs i v (by rw [Array.getElem?_toList]; exact hv)
          refine ⟨xs[i], t, List.getElem?_eq_getElem hi, ?_⟩
          rw [e, List.getD_eq_getElem?_getD, List.getElem?_eq_getElem hi]
          rfl
        refine fillX ((Walks.tuple calm3 _ l lI items).toS) s.heap.objs.size out xs sz.symm (by rw [sz]; exact few) val (items.size - 0) 0 _ (by omega) (Nat.zero_le _) ⟨⟨_, Heap.get?_push_size _ rfl, rfl, rfl⟩, (il.push _)⟩ ?_ ?_
        · exact hold_new (Heap.get?_push_of_some _ eS)
        · intro s' mv hS'
          obtain ⟨h', g2, d', tk', os'⟩ := s'
          have eg : g2 = s.gens := mv.gens
          have ed : d' = s.drawn := mv.drawn
          have eo : os' = s.os := mv.os
          subst eg
          subst ed
          subst eo
          rw [sz] at hS'
          show wpAny _ _ _ _ _ _
          refine wpAny_pure ?_
          show wpAny _ _ (ret Value.none) _ _ _
          refine wpAny_pure ⟨rfl, h', tk', rfl, hS', fun b o e => ?_⟩
          have b0 : b < s.heap.objs.size := Heap.lt_size e
          refine mv.heap b o (fun m => ?_) (Heap.get?_push_of_some _ (Heap.get?_push_of_some _ e))
          rcases List.mem_cons.mp m with z | z
          · rw [z] at b0
            exact Nat.lt_irrefl _ b0
          · have z' := List.mem_singleton.mp z
            have z2 : b = (s.heap.push (setObj w)).objs.size := z'
            rw [z1] at z2
            rw [z2] at b0
            exact absurd b0 (Nat.not_lt_of_le (Nat.le_succ _))
      · cases r2 with
        | error e => exact hr2
        | ok fl2 =>
          cases fl2 with
          | ret r =>
            obtain ⟨rfl, h', tk, rfl, hS', keep⟩ := hr2
            repeat (any_goals (first | assumption | wp_step))
            exact q _ _ hS' keep
          | _ => exact hr2.elim
    | _ => exact hr.elim
theorem call_setX_list {l : Addr} {items : Array Value} (xs : List Str) {Q : Value → Shared → Prop} (calm : A.handled = none) (hl : s.heap.IsList l items) (hs : StrsAre items.toList xs) (few : xs.length + 1 < scanBound)
    (q : ∀ (h' : Heap) (tk : Nat), HoldX w h' s.heap.objs.size xs xs.length → (∀ b o, s.heap.get? b = some o → h'.get? b = some o) → Q (.ref s.heap.objs.size) { s with heap := h', toks := tk }) :
    wpAny (model P w) A (call (.type "set") [.ref l]) Q E s := by
  have sz : items.size = xs.length := by rw [← Array.length_toList, StrsAre.len_eq hs]
  obtain ⟨c, tl, m1⟩ := PySem.F.called_set.mro
  have m2 := PySem.F.called_set.made
  have m3 := PySem.F.called_set.sub
  refine wpAny_call (codeAny_of_tree ?_)
  show wpAny _ _ (callAny (.type "set") _) _ _ _
  refine wpAny_pure ⟨Code.quiet_builtin _ (by decide +kernel), codeAny_builtin PySem.F.entry_type_call ?_⟩
  rw [Around.under_plain (weight_type_call_type "set" [.ref l] []) rfl]
  have m4 := PySem.F.called_set.notType
  have m5 := PySem.F.called_set.canCreate
  have m6 := PySem.F.typeCall_set_1 (.ref l)
  repeat (any_goals (first | assumption | wp_step))
  refine codeAny_mono (L2.code_set_led1 (.ref l) (E := E) (Q₁ := fun y s1 => y = .ref s.heap.objs.size ∧ s1 = { s with heap := s.heap.push (setObj w) }) ⟨rfl, rfl⟩) fun r s1 hr => ?_
  cases r with
  | error e => exact hr
  | ok fl =>
    cases fl with
    | ret obj =>
      obtain ⟨rfl, rfl⟩ := hr
      have eS : (s.heap.push (setObj w)).get? s.heap.objs.size = some (setObj w) := Heap.get?_push_size _ rfl
      have tS : Shared.TypeIs { s with heap := s.heap.push (setObj w) } (.ref s.heap.objs.size) "set" := ⟨_, eS, rfl⟩
      have i1 := PySem.F.called_set.init.lookup
      have i2 := PySem.F.called_set.init.bind (.ref s.heap.objs.size)
      repeat (any_goals (first | assumption | wp_step))
      refine codeAny_mono (codeAny_call_builtin (R := wants (fun r s2 => r = .none ∧ ∃ h' tk, s2 = { s with heap := h', toks := tk } ∧ HoldX w h' s.heap.objs.size xs xs.length ∧ ∀ b o, s.heap.get? b = some o → h'.get? b = some o) E) PySem.F.called_set.init.plain PySem.F.entry_set_init (check_set_init_1 tS ?_)) fun r2 s2 hr2 => ?_
      · obtain ⟨⟨oc, od, odt, osl⟩, el, hc, nl, hd⟩ := hl
        simp only at hc hd
        subst hc
        subst hd
        have el1 : (s.heap.push (setObj w)).get? l = some { cls := .type "list", dict := od, data := .seq items nl, slots := osl } := Heap.get?_push_of_some _ el
        have n1 := PySem.F.sub_list_set
        have n2 := PySem.F.sub_list_frozenset
        have n3 : (Value.type "list" == Value.type "dict") = false := by decide
        have il : (s.heap.push (setObj w)).IsList l items := ⟨_, el1, rfl, nl, rfl⟩
        unfold Builtin.«set.__init__» noKeywords Builtin.Frozenset.updateFrom
        generalize hPI : pyIter = PI
        wp_walk
        subst hPI
        refine wpAny_pyIter_list il ?_
        refine wpAny_bind (wpAny_runValue ?_)
        have lS : l < s.heap.objs.size := Heap.lt_size el
        have calm3 : A.in1.in1.in1.handled = none := by simp [calm]
        have z1 : (s.heap.push (setObj w)).objs.size = s.heap.objs.size + 1 := Heap.size_push ..
        have lI : l ≠ (s.heap.push (setObj w)).objs.size := by
          rw [z1]
          exact Nat.ne_of_lt (Nat.lt_succ_of_lt lS)
        have out : s.heap.objs.size ∉ [(s.heap.push (setObj w)).objs.size, l] := by
          rw [z1]
          intro m
          rcases List.mem_cons.mp m with z | z
          · exact absurd z (Nat.ne_of_lt (Nat.lt_succ_self _))
          · have z' := List.mem_singleton.mp z
            rw [← z'] at lS
            exact Nat.lt_irrefl _ lS
        have val : ∀ (i : Nat) (v : Value), items[i]? = some v → ∃ x t, xs[i]? = some x ∧ v = .str x t := fun i v hv => by
          have hi : i < xs.length := by rw [← sz]; exact (Array.getElem?_eq_some_iff.mp hv).1
          obtain ⟨t, e⟩ := SS.strs_at hs i v (by rw [Array.getElem?_toList]; exact hv)
          refine ⟨xs[i], t, List.getElem?_eq_getElem hi, ?_⟩
          rw [e, List.getD_eq_getElem?_getD, List.getElem?_eq_getElem hi]
          rfl
        refine fillX ((Walks.list calm3 _ l lI items).toS) s.heap.objs.size out xs sz.symm (by rw [sz]; exact few) val (items.size - 0) 0 _ (by omega) (Nat.zero_le _) ⟨⟨_, Heap.get?_push_size _ rfl, rfl, rfl⟩, (il.push _)⟩ ?_ ?_
        · exact hold_new (Heap.get?_push_of_some _ eS)
        · intro s' mv hS'
          obtain ⟨h', g2, d', tk', os'⟩ := s'
          have eg : g2 = s.gens := mv.gens
          have ed : d' = s.drawn := mv.drawn
          have eo : os' = s.os := mv.os
          subst eg
          subst ed
          subst eo
          rw [sz] at hS'
          show wpAny _ _ _ _ _ _
          refine wpAny_pure ?_
          show wpAny _ _ (ret Value.none) _ _ _
          refine wpAny_pure ⟨rfl, h', tk', rfl, hS', fun b o e => ?_⟩
          have b0 : b < s.heap.objs.size := Heap.lt_size e
          refine mv.heap b o (fun m => ?_) (Heap.get?_push_of_some _ (Heap.get?_push_of_some _ e))
          rcases List.mem_cons.mp m with z | z
          · rw [z] at b0
            exact Nat.lt_irrefl _ b0
          · have z' := List.mem_singleton.mp z
            have z2 : b = (s.heap.push (setObj w)).objs.size := z'
            rw [z1] at z2
            rw [z2] at b0
            exact absurd b0 (Nat.not_lt_of_le (Nat.le_succ _))
      · cases r2 with
        | error e => exact hr2
        | ok fl2 =>
          cases fl2 with
          | ret r =>
            obtain ⟨rfl, h', tk, rfl, hS', keep⟩ := hr2
            repeat (any_goals (first | assumption | wp_step))
            exact q _ _ hS' keep
          | _ => exact hr2.elim
    | _ => exact hr.elim
end
end Cu

namespace Cu
open PySem PySem.Spec PyProof.Rows L2
section
variable {P : Program} {w : World} {A : Around} {E : Value → Shared → Prop} {s : Shared} {a b : Addr} {S : Str → Bool} {n m : Nat}
theorem entry_set_ne : entryFor table "set.__ne__" = some Builtin.«frozenset.__ne__» := entryFor_alias (id' := "frozenset.__ne__") (by kernel_rfl) rfl (by decide +kernel) (by kernel_rfl)
theorem size_at {o : Obj} {es : Array (Int × Value)} {ep : Nat} {t : SetTable} {Q : Nat → Shared → Prop} (e : s.heap.get? a = some o) (ed : o.data = .set es ep t) (f : t.fits es.size = true) (q : Q es.size s) : wpAny (model P w) A (Builtin.Frozenset.sizeOf a) Q E s := by
  unfold Builtin.Frozenset.sizeOf
  exact wpAny_bind (wpAny_setEntries_of e ed f (wpAny_pure q))
theorem quiet_tx {e : Int × Value} (x : Tx w e) : Builtin.Frozenset.quietEq e.2 = pure true := by
  obtain ⟨k, tk, e1, _⟩ := x
  rw [e1]
  rfl
theorem set_ne_same (x : SetX w s.heap a S n) (y : SetX w s.heap b S m) {Q : Value → Shared → Prop} (q : Q (.bool false) s) : wpAny (model P w) A (call (.builtin "set.__ne__") [.ref a, .ref b]) Q E s := by
  obtain ⟨o, es, ep, t, e1, ex1, ed1, T1⟩ := id x
  obtain ⟨o', es', ep', t', e2, ex2, ed2, T2⟩ := id y
  have tp1 : s.TypeIs (.ref a) "set" := ⟨o, e1, ex1.1⟩
  have tp2 : s.TypeIs (.ref b) "set" := ⟨o', e2, ex2.1⟩
  refine wpAny_call_entry PySem.F.slot_set_ne tp1 entry_set_ne ?_ (PySem.F.args_set_ne_2 _ _)
  refine wpAny_bind (m := Builtin.Frozenset.slot1 "__ne__" _) ?_
  unfold Builtin.Frozenset.slot1 slotArgs
  simp only [List.isEmpty_nil, Bool.not_true, Bool.false_eq_true, ↓reduceIte, bind_assoc, List.length_nil, bne_self_eq_false]
  refine wpAny_pure ?_
  try dsimp only
  unfold Builtin.Frozenset.isAnySet
  refine wpAny_bind (wpAny_bind (m := isInstance _ _) (wpAny_isInstance (b := true) tp2 sub_set_self (wpAny_pure ?_)))
  simp only [Bool.not_true, Bool.false_eq_true, ↓reduceIte]
  refine wpAny_bind (m := Builtin.Frozenset.addrOf _) (wpAny_pure ?_)
  refine wpAny_bind (m := Builtin.Frozenset.addrOf _) (wpAny_pure ?_)
  refine wpAny_bind (size_at e1 ed1 T1.fit ?_)
  refine wpAny_bind (size_at e2 ed2 T2.fit ?_)
  have nm : es.size = es'.size := by
    have p : (es.toList.map txt).Perm (es'.toList.map txt) := (List.perm_ext_iff_of_nodup T1.nd T2.nd).mpr fun k => (T1.mem k).symm.trans (T2.mem k)
    have l := p.length_eq
    rw [List.length_map, List.length_map, Array.length_toList, Array.length_toList] at l
    exact l
  rw [nm]
  simp only [bne_self_eq_false, Bool.false_eq_true, ↓reduceIte]
  refine wpAny_bind (wpAny_bind (m := _ <&&> _) (wpAny_bind (m := isInstance _ _) (wpAny_isInstance (b := false) tp1 PySem.F.sub_set_frozenset (wpAny_pure ?_))))
  simp only [Bool.not_true, Bool.false_eq_true, ↓reduceIte]
  unfold Builtin.Frozenset.subsetOf
  refine wpAny_bind (size_at e1 ed1 T1.fit ?_)
  refine wpAny_bind (size_at e2 ed2 T2.fit ?_)
  rw [nm]
  simp only [gt_iff_lt, Nat.lt_irrefl, ↓reduceIte]
  refine wpAny_bind (wpAny_setEpoch_of e1 ed1 T1.fit ?_)
  unfold Builtin.Frozenset.walkUnseen
  refine wpAny_bind (wpAny_bind (wpAny_setEntries_of e1 ed1 T1.fit (wpAny_bind (wpAny_setEntries_of e2 ed2 T2.fit ?_))))
  refine wpAny_bind (wpAny_forIn_list _ (fun l r s' => r = (none, ()) ∧ s' = s ∧ ∀ e ∈ l, Tx w e) _ ?_ ?_ _ _ ⟨rfl, rfl, fun e m => ?_⟩)
  · rintro e rest r s' ⟨rfl, rfl, all⟩
    obtain ⟨k, v⟩ := e
    have hv := quiet_tx (all _ List.mem_cons_self)
    dsimp only at hv ⊢
    rw [hv, pure_bind]
    exact wpAny_pure ⟨rfl, rfl, fun e m => all e (List.mem_cons_of_mem _ m)⟩
  · rintro r s' ⟨rfl, rfl, _⟩
    refine wpAny_pure ?_
    refine wpAny_bind (wpAny_forIn_list _ (fun l r s2 => r = (none, ()) ∧ s2 = s' ∧ ∀ e ∈ l, e ∈ es.toList) _ ?_ ?_ _ _ ⟨rfl, rfl, fun e m => m⟩)
    · rintro e rest r s2 ⟨rfl, rfl, all⟩
      have me := all e List.mem_cons_self
      obtain ⟨k, tk, h1, h2⟩ := T1.tx e me
      have kin : S k = true := (T1.mem k).mpr (List.mem_map.mpr ⟨e, me, by unfold txt; rw [h1]⟩)
      refine wpAny_bind (wpAny_holding ?_)
      rw [h1, h2]
      refine wpAny_setFind_of (knd := PySem.strKind P w) (k := k) (PySem.strKind_is P w k tk) rfl y.of fun r hr => ?_
      rw [kin] at hr
      cases r with
      | none => cases hr
      | some j =>
        simp only [Option.isNone_some, Bool.false_eq_true, ↓reduceIte]
        unfold Builtin.Frozenset.unchanged
        refine wpAny_bind (wpAny_bind (wpAny_setEpoch_of e1 ed1 T1.fit ?_))
        simp only [bne_self_eq_false, Bool.false_eq_true, ↓reduceIte]
        exact wpAny_pure (wpAny_pure ⟨rfl, rfl, fun e m => all e (List.mem_cons_of_mem _ m)⟩)
    · rintro r s2 ⟨rfl, rfl, _⟩
      exact wpAny_pure (wpAny_pure ⟨_, rfl, q⟩)
  · rcases List.mem_append.mp m with z | z
    · exact T1.tx e z
    · exact T2.tx e z
end
end Cu

namespace Cu
open PySem PySem.Spec PyProof.Rows L2
/-- the set of texts at a -/
def SetXO (w : World) (a : Addr) (S : Str → Bool) (n : Nat) : HO := .ext fun h => SetX w h a S n
section
variable {X : Cx}
theorem setXO_new {w : World} {P : Program} {H : Hp} {h : Heap} {a : Addr} {S : Str → Bool} {n : Nat} (x : SetX w h a S n) : ObjOk P w H h a (SetXO w a S n) := by
  obtain ⟨o, _, _, _, e, _⟩ := id x
  exact ⟨x, ⟨o, e⟩, fun h1 h2 p k => SetX.at p k⟩
theorem setXO_get {pins : List (Addr × Obj)} {σ : L2.St} {H : Hp} {s : Shared} {a : Addr} {S : Str → Bool} {n : Nat} (I : Inv X pins σ H s) (e : H a = some (SetXO X.w a S n)) : SetX X.w s.heap a S n := (I.hok a _ e).1
/-- set(xs) of texts -/
def rSetX (K : PySem.W.Frag) (w : World) : List V → Hp → VK → Prop := fun vs H Q => ∃ (l : Addr) (xs : List Str), vs = [.ref l] ∧ (SqL K H l (xs.map V.str) ∨ SqT K H l (xs.map V.str)) ∧ xs.length ≤ 4000 ∧
  ∀ (p : Addr) (n : Nat), H p = none → n ≤ xs.length → (xs.Nodup → n = xs.length) → Q (.ref p) (upd H p (SetXO w p (fun k => decide (k ∈ xs)) n))
theorem call_setX (hc : X.calm = true) : CallR X (.type "set") (rSetX X.K X.w) := by
  intro pins s σ H vs us Q I r h
  obtain ⟨l, xs, rfl, hs, few, q⟩ := h
  rw [Vals.ref1 r]
  have fin : ∀ (h' : Heap) (tk : Nat), HoldX X.w h' s.heap.objs.size xs xs.length → (∀ b o, s.heap.get? b = some o → h'.get? b = some o) → EP X pins σ Q (.ref s.heap.objs.size) { s with heap := h', toks := tk } := by
    rintro h' tk ⟨c, hx, cl, ce⟩ keep
    rw [List.take_length] at hx ce
    exact ⟨.ref _, upd H s.heap.objs.size (SetXO X.w s.heap.objs.size (fun k => decide (k ∈ xs)) c), I.laid keep (Nat.le_refl _) (setXO_new hx), rfl, q _ c (I.hok.fresh (Nat.le_refl _)) cl ce⟩
  rcases hs with hs | hs
  · obtain ⟨its, rv, pl, _⟩ := I.list hs
    exact call_setX_list xs (I.ok.hd hc) pl.isList (by simpa using strsAre_of rv) (by unfold scanBound; omega) fin
  · obtain ⟨its, rv, pl, _⟩ := I.tuple hs
    exact call_setX_tuple xs (I.ok.hd hc) pl (by simpa using strsAre_of rv) (by unfold scanBound; omega) fin
/-- len of a set of texts -/
def rLenX (w : World) : List V → Hp → VK → Prop := fun vs H Q => ∃ (a : Addr) (S : Str → Bool) (n : Nat), vs = [.ref a] ∧ H a = some (SetXO w a S n) ∧ Q (.int n) H
theorem few63 {n : Nat} (h : n < scanBound) : (n : Int) < 2 ^ 63 := by
  have : scanBound = 4096 := rfl
  omega
theorem call_lenX : CallR X (.builtin "len") (rLenX X.w) := by
  intro pins s σ H vs us Q I r h
  obtain ⟨a, S, n, rfl, e, q⟩ := h
  rw [Vals.ref1 r]
  obtain ⟨o, es, ep, t, eo, ex, ed, T⟩ := setXO_get I e
  obtain rfl : es.size = n := T.num
  have J := I.tok (s.toks + 1 + 1)
  refine call_len_set eo ex ed T.fit (few63 T.few) ?_
  exact ⟨.int es.size, H, J, ⟨_, rfl⟩, q⟩
/-- two sets of the same texts are not different -/
def rNeX (w : World) : R2 := fun x y H Q => ∃ (a b : Addr) (S S' : Str → Bool) (n m : Nat), x = .ref a ∧ y = .ref b ∧ H a = some (SetXO w a S n) ∧ H b = some (SetXO w b S' m) ∧ (∀ k, S k = S' k) ∧ Q (.bl false) H
theorem op_neX (hu : X.A.units < cLine) : OpR X (compareOp .NotEq) (rNeX X.w) := by
  intro pins s σ H x y v u Q I rx ry h
  obtain ⟨a, b, S, S', n, m, rfl, rfl, e1, e2, es, q⟩ := h
  cases rx
  cases ry
  have x1 := setXO_get I e1
  have x2 := (setXO_get I e2).is (S' := S) es
  obtain ⟨o, _, _, _, eo, ex, _⟩ := id x1
  obtain ⟨o', _, _, _, eo', ex', _⟩ := id x2
  have t1 : s.TypeIs (.ref a) "set" := ⟨o, eo, ex.1⟩
  have t2 : s.TypeIs (.ref b) "set" := ⟨o', eo', ex'.1⟩
  show wpAny _ _ (richCompare .NotEq (.ref a) (.ref b)) _ _ _
  refine wpAny_richCompare_same_room (T := "set") (id := "set.__ne__") t1 t2 PySem.F.slot_set_ne (set_ne_same x1 x2 ?_) hu
  refine ⟨(fun z => by cases z), ?_⟩
  exact ⟨.bl false, H, I, rfl, q⟩
/-- sorted of a set of texts -/
def rSortX (w : World) : List V → Hp → VK → Prop := fun vs H Q => ∃ (a : Addr) (S : Str → Bool) (n : Nat), vs = [.ref a] ∧ H a = some (SetXO w a S n) ∧ (∀ ks : List Str, ks.Nodup → (∀ k ∈ ks, S k = true) → ks.length < 64) ∧
  ∀ (ys : List Str) (p : Addr), ys.Nodup → sortedS ys = true → (∀ k, k ∈ ys ↔ S k = true) → ys.length = n → H p = none → Q (.ref p) (upd H p (.lst (ys.map V.str)))
theorem strs_of : ∀ (l : List Value), (∀ v ∈ l, ∃ k tk, v = Value.str k tk) → ∃ zs : List Str, StrsAre l zs ∧ zs = l.map fun v => match v with | .str k _ => k | _ => ""
  | [], _ => ⟨[], .nil, rfl⟩
  | v :: l, h => by
    obtain ⟨k, tk, rfl⟩ := h v List.mem_cons_self
    obtain ⟨zs, h1, h2⟩ := strs_of l fun u m => h u (List.mem_cons_of_mem _ m)
    exact ⟨k :: zs, .cons k tk h1, by rw [h2]; rfl⟩
theorem sortX {P : Program} {w : World} {A : Around} {E : Value → Shared → Prop} {s : Shared} {a : Addr} {S : Str → Bool} {n : Nat} {Q : Value → Shared → Prop} (x : SetX w s.heap a S n) (calm : A.handled = none) (h64 : n < 64)
    (q : ∀ s' p (out : Array Value) (c : Nat) (ys : List Str), (∀ b o, s.heap.get? b = some o → s'.heap.get? b = some o) → s'.gens = s.gens → s'.os = s.os → s.heap.objs.size ≤ p →
      s'.heap.get? p = some (seqObj "list" out c) → StrsAre out.toList ys → ys.Nodup → sortedS ys = true → (∀ k, k ∈ ys ↔ S k = true) → ys.length = n → Q (.ref p) s') :
    wpAny (model P w) A (call (.builtin "sorted") [.ref a]) Q E s := by
  obtain ⟨o, es, ep, t, eo, ex, ed, T⟩ := x
  refine Calls.call_function_entry kind_sorted plain_sorted entry_sorted (args_sorted1 _) ?_
  unfold Builtin.«sorted»
  refine wpAny_bind (m := checkCount "sorted" 1 1 _) (wpAny_pure ?_)
  refine wpAny_bind (collect_set (A := A.in1) calm ⟨o, eo, ex.1, ed⟩ T.fit T.few T.ris T.led fun s1 vs k1 hz g1 o1 pm => ?_)
  have vl : vs.length = n := by rw [pm.length_eq, List.length_map, Array.length_toList]; exact T.num
  obtain ⟨zs, hS, ez⟩ := strs_of vs fun v m => by
    obtain ⟨e, me, qe⟩ := List.mem_map.mp (pm.mem_iff.mp m)
    obtain ⟨k, tk, h1, _⟩ := T.tx e me
    exact ⟨k, tk, by rw [← qe]; exact h1⟩
  have pk : zs.Perm (es.toList.map txt) := by
    rw [ez]
    have z := pm.map fun v => (match v with | .str k _ => k | _ => "" : Str)
    rw [List.map_map] at z
    exact z
  refine wpAny_bind (wpAny_newList ?_ (by rw [vl, sizeLine_eq]; omega))
  have eL : (s1.heap.push (seqObj "list" vs.toArray 0)).get? s1.heap.objs.size = some (seqObj "list" vs.toArray 0) := Heap.get?_push_size _ rfl
  refine wpAny_bind (wpAny_holding (wpAny_call_entry slot_list_sort ⟨_, eL, rfl⟩ entry_list_sort (list_sort_treeK strKind_oneLt eL hS.keysOf (fun _ _ _ e => keyKind_strs (by rw [← e]; exact hS)) (by rw [vl]; exact h64) fun st' hp hs => ⟨_, rfl, ?_⟩) (args_list_sort _)))
  obtain ⟨ys, y1, y2, y3⟩ := sorted_out_str hS hp hs
  obtain ⟨c, hc⟩ := sortedHeap_at (vs := vs) (out := (arrOf st').map (·.2)) eL
  have pn : ys.Perm (es.toList.map txt) := y2.trans pk
  refine wpAny_pure ⟨_, rfl, q _ s1.heap.objs.size _ c ys (fun b u e => ?_) g1 o1 hz hc y1 (pn.nodup_iff.mpr T.nd) y3 (fun k => by rw [pn.mem_iff, ← T.mem k]) ?_⟩
  · have z := k1 b u e
    have lt := Heap.lt_size z
    show (sortedHeap (s1.heap.push (seqObj "list" vs.toArray 0)) s1.heap.objs.size vs _).get? b = some u
    rw [sortedHeap_old (Nat.ne_of_lt lt) (by rw [size_push']; exact Nat.lt_succ_of_lt lt)]
    exact Heap.get?_push_of_some _ z
  · rw [pn.length_eq, List.length_map, Array.length_toList]
    exact T.num
theorem call_sortX (hc : X.calm = true) : CallR X (.builtin "sorted") (rSortX X.w) := by
  intro pins s σ H vs us Q I r h
  obtain ⟨a, S, n, rfl, e, few, q⟩ := h
  rw [Vals.ref1 r]
  have h64 : n < 64 := by
    obtain ⟨_, es, _, _, _, _, _, T⟩ := setXO_get I e
    have z := few (es.toList.map txt) T.nd fun k m => (T.mem k).mpr m
    rw [List.length_map, Array.length_toList, T.num] at z
    exact z
  refine sortX (setXO_get I e) (I.ok.hd hc) h64 fun s' p out c ys k g o hp hg hs nd so hm hl => ?_
  have len : (ys.map V.str).length ≤ sizeLine := by rw [List.length_map, hl, sizeLine_eq]; omega
  have hn : H p = none := I.hok.fresh hp
  have J : Inv X pins σ (upd H p (.lst (ys.map V.str))) { s with heap := s'.heap, gens := s'.gens, drawn := s'.drawn, toks := s'.toks } :=
    I.call (ch := []) (Un.laid k hp hn) (I.hok.laid k hp ⟨len, out.toList, c, vals_of_strs hs, hg⟩) (by rw [g]; exact I.bare) (fun _ z => nomatch z)
  have e' : s' = { s with heap := s'.heap, gens := s'.gens, drawn := s'.drawn, toks := s'.toks } := by
    cases s'
    cases s
    cases o
    rfl
  rw [e']
  exact ⟨.ref p, _, J, rfl, q ys p nd so hm hl hn⟩
end
end Cu

namespace Cu
open PySem PySem.Spec PyProof.Rows L2
/-! ### enumerate(tuple) -/
section
variable {prog : Program} {w : World} {A : Around} {E : Value → Shared → Prop} {s : Shared}
theorem enum_newT (l : Addr) (items : Array Value) (n : Nat) (dct : Option Addr) (sl : Array (Option Value)) :
    Meets (Builtin.«enumerate.__new__» ⟨[.type "enumerate", .ref l], []⟩) (fun _ R s => s.heap.get? l = some { cls := .type "tuple", dict := dct, data := .seq items n, slots := sl } ∧
      R (.ok (.ret (.ref (s.heap.push { cls := .type "tuple_iterator", data := .fields #[.ref l, .int 0 0] }).objs.size)))
        { s with heap := (s.heap.push { cls := .type "tuple_iterator", data := .fields #[.ref l, .int 0 0] }).push { cls := .type "enumerate", data := .fields #[.none, .bool false, .ref s.heap.objs.size, rawInt 0, .none, .none] } }) :=
  .of_wp fun prog w A R s h => by
    obtain ⟨hp, g, d, tk, os⟩ := s
    obtain ⟨e, q⟩ := h
    have sub := sub_enumerate
    have tup : Heap.IsTuple (Shared.heap ⟨hp, g, d, tk, os⟩) l items := ⟨_, e, rfl, n, rfl⟩
    wp_walk using AutoSeq1.wpAny_loadPart' e
    refine wpAny_stack_any fun st => wpAny_pure ?_
    split
    · rename_i c _ _ _ _ _
      cases (c == Value.type "enumerate")
      · wp_walk using AutoSeq1.wpAny_loadPart' e, wpAny_pyIter_tuple tup
        exact ⟨_, rfl, q⟩
      · wp_walk using AutoSeq1.wpAny_loadPart' e, wpAny_pyIter_tuple tup
        exact ⟨_, rfl, q⟩
    · wp_walk using AutoSeq1.wpAny_loadPart' e, wpAny_pyIter_tuple tup
      exact ⟨_, rfl, q⟩
theorem call_enumT {l : Addr} {items : Array Value} {Q : Value → Shared → Prop} (tup : s.heap.IsTuple l items)
    (q : ∀ h', IsEnum h' (s.heap.objs.size + 1) s.heap.objs.size 0 .none → h'.IsTupleIter s.heap.objs.size l 0 → h'.objs.size = s.heap.objs.size + 2 →
      (∀ b o, s.heap.get? b = some o → h'.get? b = some o) → Q (.ref (s.heap.objs.size + 1)) { s with heap := h' }) :
    wpAny (model prog w) A (call (.type "enumerate") [.ref l]) Q E s := by
  obtain ⟨⟨c, dct, dt, sl⟩, e, hc, n, hd⟩ := tup
  replace hc : c = .type "tuple" := hc
  replace hd : dt = .seq items n := hd
  subst hc hd
  refine callType_new F.called_enumerate (by decide) (F.typeCall_enumerate_1 _) (F.newCall_enumerate_1 _) (fun obj => F.args_object_init_2 obj _) F.entry_enumerate_new (enum_newT l items n dct sl) ⟨e, ?_⟩
  have z1 : (s.heap.push { cls := .type "tuple_iterator", data := .fields #[.ref l, .int 0 0] }).objs.size = s.heap.objs.size + 1 := Heap.size_push ..
  show _ ∧ _
  rw [z1]
  have he : IsEnum ((s.heap.push { cls := .type "tuple_iterator", data := .fields #[.ref l, .int 0 0] }).push { cls := .type "enumerate", data := .fields #[.none, .bool false, .ref s.heap.objs.size, rawInt 0, .none, .none] }) (s.heap.objs.size + 1) s.heap.objs.size 0 .none := by
    have z := Heap.get?_push_size (s.heap.push { cls := .type "tuple_iterator", data := .fields #[.ref l, .int 0 0] }) (o := { cls := .type "enumerate", data := .fields #[.none, .bool false, .ref s.heap.objs.size, rawInt 0, .none, .none] }) rfl
    rw [z1] at z
    exact z
  exact ⟨⟨_, he, rfl⟩, q _ he ⟨_, Heap.get?_push_of_some _ (Heap.get?_push_size _ rfl), rfl, rfl⟩ (by rw [Heap.size_push, z1]) fun b o x => Heap.get?_push_of_some _ (Heap.get?_push_of_some _ x)⟩
end
/-- the tuple at a, each item in a new pair -/
def ItE (K : PySem.W.Frag) (a : Addr) : It :=
  ⟨fun i H => ∃ (xs : List V) (x : V), SqT K H a xs ∧ xs[i]? = some x, fun i H v H' => ∃ T x, v = .ref T ∧ H T = none ∧ H' = upd H T (.tup [.int (i : Nat), x]) ∧ ∀ xs, SqT K H a xs → xs[i]? = some x, fun i H => ∃ xs : List V, SqT K H a xs ∧ xs.length = i⟩
theorem turn_enumT {P : Program} {w : World} {K : PySem.W.Frag} {elts : List Expr} {kk : Nat} {tpos : Pos} (a e it : Addr) (ait : a ≠ it) (ae : a ≠ e) :
    Turn P w K (.Tuple elts kk tpos) (ItE K a) [e, it] e (fun i h => (∃ old, IsEnum h e it ((i : Nat) : Int) old) ∧ h.IsTupleIter it a i ∧ e ≠ it) where
  mem := by simp
  obj := fun i h st b hb => by
    obtain ⟨⟨old, he⟩, ⟨o, ho, hc, hd⟩, _⟩ := st
    rcases (by simpa using hb : b = e ∨ b = it) with z | z
    · rw [z]
      exact ⟨_, he, fun v q => nomatch q⟩
    · rw [z]
      exact ⟨o, ho, fun v q => by rw [hd] at q; cases q⟩
  keep := fun i h h' st k => let ⟨⟨old, he⟩, hi, hne⟩ := st; ⟨⟨old, k e (by simp) _ he⟩, hi.at fun o q => k it (by simp) o q, hne⟩
  item := by
    intro X hP hw hK hc i pins s σ H E I hf st hg
    subst hP hw hK
    obtain ⟨⟨old, he⟩, hit, hne⟩ := st
    obtain ⟨xs, x, hq, hx⟩ := hg
    obtain ⟨its, rv, p, hz⟩ := I.tuple hq
    obtain ⟨u, hu, ru⟩ := rv.get hx
    have el : e < s.heap.objs.size := Heap.lt_size he
    have il : it < s.heap.objs.size := by obtain ⟨_, q, _⟩ := hit; exact Heap.lt_size q
    have lt : i < its.toArray.size := by
      rw [List.size_toArray]
      exact (List.getElem?_eq_some_iff.mp hu).1
    have hd : X.A.in1.handled = none := I.ok.hd hc
    refine wpAny_pyNext_enum_itemD (Draws.tuple hd it a ait its.toArray) he ⟨hit, p⟩ lt hne (by simpa using ⟨hne, ae.symm⟩) fun y h' tk hy ho st' hT hsz hk => ?_
    obtain rfl : y = u := by
      have z : its.toArray[i]? = some y := hy
      rw [List.getElem?_toArray, hu] at z
      exact (Option.some.inj z).symm
    refine ⟨_, rfl, wpAny_letOwnedTupleGo_enum (s := { s with heap := h', toks := tk + 1 }) ho fun h'' he' sb => ?_⟩
    have hT2 : h''.get? s.heap.objs.size = some { cls := .type "tuple", data := .seq #[.int i tk, y] } := (sb.2 _ (Nat.ne_of_gt el)).trans hT
    have new : ObjOk X.prog X.w (upd H s.heap.objs.size (.tup [.int (i : Nat), x])) h'' s.heap.objs.size (.tup [.int (i : Nat), x]) :=
      ⟨by show 2 ≤ sizeLine; decide, [.int i tk, y], .cons ⟨_, rfl⟩ (.cons ru .nil), ⟨_, hT2, rfl, _, rfl⟩⟩
    have I1 : Inv X pins σ (upd H s.heap.objs.size (.tup [.int (i : Nat), x])) { s with heap := h'', toks := tk + 1 } :=
      I.turnedNew (ch := [e, it]) (fun b ob hb q => (sb.2 b (fun z => hb (by simp [z]))).trans (hk b ob (fun z => hb (by simp [z])) (fun z => hb (by simp [z])) q)) hf (Nat.le_refl _) new
    refine ⟨.ref s.heap.objs.size, _, I1, rfl, ⟨_, x, rfl, I.hok.fresh (Nat.le_refl _), rfl, fun ys hy => by rw [I.tuple_inj hy hq]; exact hx⟩, ⟨⟨y, ?_⟩, st'.1.at fun o q => (sb.2 it (Ne.symm hne)).trans q, hne⟩, fun b hb => ?_⟩
    · rw [show ((i + 1 : Nat) : Int) = (i : Int) + 1 by omega]
      exact he'
    · have lb : b < s.heap.objs.size := by
        rcases (by simpa using hb : b = e ∨ b = it) with z | z
        · rw [z]
          exact el
        · rw [z]
          exact il
      rw [upd_ne (Nat.ne_of_lt lb)]
      exact (hf b hb).1
  done := by
    intro X hP hw hK hc i pins s σ H E I hf st hg
    subst hP hw hK
    obtain ⟨⟨old, he⟩, hit, hne⟩ := st
    obtain ⟨xs, hq, hx⟩ := hg
    obtain ⟨its, rv, p, hz⟩ := I.tuple hq
    obtain ⟨f0, f1, f2, f3, f4, f5⟩ := hf it (by simp)
    have len : its.toArray.size = i := by rw [List.size_toArray, ← rv.length, hx]
    have hd : X.A.in1.handled = none := I.ok.hd hc
    refine wpAny_pyNext_enum_endD (i := (i : Int)) (Draws.tuple hd it a ait its.toArray) he ⟨by rw [len]; exact hit, p⟩ fun h' eb => ⟨rfl, I.turned (t' := s.toks) (fun b o hb q => eb b o hb q) f0 f1 f3 f4 f5⟩
  self := fun A i s Q E st h => let ⟨⟨_, he⟩, _⟩ := st; wpAny_pyIter_enum he h
def iEnumT (K : PySem.W.Frag) (ta : TA) : TI := fun σ H R => ta σ H fun vs H1 => ∃ a xs, vs = [.ref a] ∧ SqT K H1 a xs ∧ R (ItE K a) H1
theorem pi_enumT {X : Cx} {e : Expr} {ta : TA} {p pos tpos : Pos} {elts : List Expr} {kk : Nat} (hg : Gl X "enumerate") (hm : X.mg "enumerate" = none) (ha : PA X [e] ta) (hs : starEach [e] X.env = [(false, eval e X.env)] := by rfl) :
    PI X (.Tuple elts kk tpos) (.Call (.Name "enumerate" p) [e] [] pos) (iEnumT X.K ta) := by
  refine ⟨fun pins s σ H R I h => ?_⟩
  refine Call_ (ld_blt I hg hm boot_enumerate (PyProof.Rows.callWith_type1 (thn (ha.run pos pins s σ H _ I h) fun us s1 ⟨vs, H1, I1, r1, q1⟩ => ?_) hs rfl))
  obtain ⟨a, xs, rfl, hq, q⟩ := q1
  cases r1 with
  | cons r rr =>
    cases rr
    cases r
    obtain ⟨its, rv, tup, hz⟩ := I1.tuple hq
    have al : a < s1.heap.objs.size := by
      obtain ⟨o, e, _⟩ := tup
      exact Heap.lt_size e
    refine call_enumT tup fun h' he hit hsz hk => wpAny_pyIter_enum he ?_
    have I2 : Inv X pins σ H1 { s1 with heap := h' } := I1.kept (t' := s1.toks) hk
    refine ⟨s1.heap.objs.size + 1, [s1.heap.objs.size + 1, s1.heap.objs.size], _, _, H1, rfl, I2, turn_enumT a (s1.heap.objs.size + 1) s1.heap.objs.size (Nat.ne_of_lt al) (Nat.ne_of_lt (Nat.lt_succ_of_lt al)), ⟨⟨.none, he⟩, hit, Nat.succ_ne_self _⟩, fun b hb => ?_, q⟩
    have le : s1.heap.objs.size ≤ b := by
      rcases (by simpa using hb : b = s1.heap.objs.size + 1 ∨ b = s1.heap.objs.size) with z | z
      · rw [z]
        exact Nat.le_add_right _ _
      · rw [z]
        exact Nat.le_refl _
    exact I1.fpOk le (I1.hok.fresh le)
theorem walk_enumT {K : PySem.W.Frag} {a : Addr} {xs : List V} : Walk (ItE K a) xs.length (fun H => SqT K H a xs) (YPair (fun i => some (.int (i : Nat))) (fun i => xs[i]?)) := by
  refine ⟨fun i _ hi q => ⟨xs, xs[i], q, by simp [hi]⟩, fun _ q => ⟨xs, q, rfl⟩, fun i H v H' _ q y => ?_⟩
  obtain ⟨T, x, h1, h2, h3, h4⟩ := y
  exact ⟨T, .int (i : Nat), x, h1, h2, h3, rfl, h4 xs q⟩
end Cu

namespace Cu
open PySem PySem.Spec PyProof.Rows L2
/-! ### the text -/
def topS (i : Nat) : Stmt := PySem.Challenge.pw_crossundo_k07_actions_above_and_below.main.body.getD i (.Pass ⟨0, 0, 0, 0⟩)
/-- a def that stands, is named, and binds its arguments -/
structure Df (K : PySem.W.Frag) (mg : Str → Option Value) (nm : Str) (st : Stmt) (ps : List Str) (f : Addr) (fd : FuncData) : Prop where
  F : Fun K nm nm st f fd
  g : mg nm = some (.ref f)
  b : Binds K fd ps []
/-- the builtins' names are free -/
structure Bl (mg : Str → Option Value) : Prop where
  len : mg "len" = none
  abs : mg "abs" = none
  int : mg "int" = none
  range : mg "range" = none
  max : mg "max" = none
  min : mg "min" = none
  all : mg "all" = none
  any : mg "any" = none
  tuple : mg "tuple" = none
  list : mg "list" = none
  enumerate : mg "enumerate" = none
  set : mg "set" = none
  sorted : mg "sorted" = none
  repr : mg "repr" = none
abbrev sHand : Stmt := topS 8
abbrev sTake : Stmt := topS 9
abbrev sOf : Stmt := topS 10
theorem scH : FnScope ["_law_script", "_law_k", "_law_cell", "_law_great"] ["_law_script", "_law_k"] (defScope sHand) := ⟨rfl, rfl, rfl, by decide +kernel, rfl, by decide +kernel, by decide +kernel⟩
theorem scT : FnScope ["_law_hand_here", "_law_many", "_law_digit", "_law_prime", "_law_drawn"] ["_law_hand_here", "_law_many"] (defScope sTake) := ⟨rfl, rfl, rfl, by decide +kernel, rfl, by decide +kernel, by decide +kernel⟩
theorem scO : FnScope ["_law_hand_here", "_law_some"] ["_law_hand_here", "_law_some"] (defScope sOf) := ⟨rfl, rfl, rfl, by decide +kernel, rfl, by decide +kernel, by decide +kernel⟩
section
variable {P : Program} {w : World} {K : PySem.W.Frag} {mg : Str → Option Value} {base : Heap}
/-! ### _law_hand -/
def spHand (K : PySem.W.Frag) : Sp := fun vs H Q _ => ∃ (a : Addr) (k : Int) (ns : List Int), vs = [.ref a, .int k] ∧ SqL K H a (ns.map V.int) ∧ 0 ≤ k ∧ k < 1000 ∧ ∀ H' p, Same H H' → H p = none → Hand H' p 0 → Q (.ref p) H'
theorem big_pos : (0 : Int) < 10 ^ (60 : Int).toNat * 10 ^ (60 : Int).toNat * 10 ^ (60 : Int).toNat := by decide +kernel
theorem big_lt : (10 : Int) ^ (60 : Int).toNat * 10 ^ (60 : Int).toNat * 10 ^ (60 : Int).toNat < 2 ^ 600 := by decide +kernel
theorem ok_hand {f : Addr} {fd : FuncData} {k : Nat} (F : Fun K "_law_hand" "_law_hand" sHand f fd) (T : Bl mg) : FnOk P w K mg base CX0 (k + 1) f fd ["_law_script", "_law_k"] (spHand K) := by
  refine F.ok scH (fun vs H Q E h => ?_) (fun cdv A outer s H vs Q E hr h => ?_)
  · obtain ⟨a, k, ns, rfl, _⟩ := h
    rfl
  · obtain ⟨a, k, ns, rfl, hS, hk0, hk1, q⟩ := h
    refine ⟨_, (pss_cons (ps_set (i := 2) scH.nd rfl (.inl rfl) (pe_ifExp (pt_cmpR op_lt (pv 1) (pe_callB call_len_seq (by rfl) T.len PySem.boot_len (pa_cons (pv 0) pa_nil)) (nomark _)) (pe_ix ix_list (pv 0) (pv 1) (fun _ _ => rfl)) pe_int))
  (pss_cons (ps_set (i := 3) scH.nd rfl (.inl rfl) (pe_op op_mul (pe_op op_mod (pe_callB call_abs (by rfl) T.abs (by decide +kernel) (pa_cons (pv 2) pa_nil)) (pe_op op_mulW (pe_op op_mulW (pe_op op_pow pe_int pe_int) (pe_op op_pow pe_int pe_int)) (pe_op op_pow pe_int pe_int))) (pe_callTy call_int1 (by rfl) T.int (by decide +kernel) (pa_cons (pe_cmpR op_ge (pe_callB call_abs (by rfl) T.abs (by decide +kernel) (pa_cons (pv 2) pa_nil)) (pe_op op_pow pe_int pe_int) (nomark _)) pa_nil))))
  (pss_one (ps_ret (pe_lst (pa_cons (pv 3) (pa_cons (pe_op op_mod (pe_op op_mul (pe_op op_add (pe_op op_add (pe_op op_mod (pv 2) pe_int) (pe_op op_mul pe_int (pv 1))) pe_int) pe_int) pe_int) (pa_cons pe_int pa_nil)))))))), ?_⟩
    refine ⟨.int k, rfl, .ref a, rfl, a, _, rfl, .inl hS, _, _, rfl, rfl, _, rfl, ?_⟩
    refine ifx (fun v => ∃ c : Int, v = .int c) (fun hb all => ?_) ⟨0, rfl⟩ ?_
    · have hb' : k < ((ns.map V.int).length : Int) := of_decide_eq_true hb
      obtain ⟨v, e1, e2⟩ := at_of hk0 hb'
      refine ⟨.ref a, rfl, .int k, rfl, a, _, k, v, rfl, rfl, hS, e2, all v ?_⟩
      rw [List.getElem?_map] at e1
      obtain ⟨z, _, rfl⟩ := Option.map_eq_some_iff.mp e1
      exact ⟨z, rfl⟩
    · rintro v ⟨c, rfl⟩
      refine ⟨.int c, rfl, c, rfl, 10, 60, rfl, rfl, ⟨by decide, by decide, by decide⟩, 10, 60, rfl, rfl, ⟨by decide, by decide, by decide⟩, _, _, rfl, rfl, wide_mul (a := 200) (b := 200) (by decide +kernel) (by decide +kernel) (by decide) (by decide) (by decide),
        10, 60, rfl, rfl, ⟨by decide, by decide, by decide⟩, _, _, rfl, rfl, wide_mul (a := 400) (b := 200) (by decide +kernel) (by decide +kernel) (by decide) (by decide) (by decide), _, _, rfl, rfl, big_pos, ?_⟩
      refine ⟨.int c, rfl, c, rfl, 10, 18, rfl, rfl, ⟨by decide, by decide, by decide⟩, _, _, rfl, rfl, .inr ⟨_, rfl, _, _, rfl, rfl, .inr ?_, ?_⟩⟩
      · exact b01 _
      · have m0 : ∀ z : Int, 0 ≤ z % (10 ^ (60 : Int).toNat * 10 ^ (60 : Int).toNat * 10 ^ (60 : Int).toNat) := fun z => Int.emod_nonneg z (Int.ne_of_gt big_pos)
        have m1 : ∀ z : Int, z % (10 ^ (60 : Int).toNat * 10 ^ (60 : Int).toNat * 10 ^ (60 : Int).toNat) < 2 ^ 600 := fun z => Int.lt_trans (Int.emod_lt_of_pos z big_pos) big_lt
        have n0 : 0 ≤ c % 2147483629 := Int.emod_nonneg c (by decide)
        have n1 : c % 2147483629 < 2147483629 := Int.emod_lt_of_pos c (by decide)
        refine ⟨_, rfl, .int c, rfl, c, 2147483629, rfl, rfl, (show (0 : Int) < 2147483629 by decide), .int k, rfl, 7919, k, rfl, rfl, .inl ⟨by decide, by decide⟩, _, _, rfl, rfl, _, 13, rfl, rfl, _, 48271, rfl, rfl, .inr ⟨by decide, by decide⟩, _, 2147483647, rfl, rfl,
          (show (0 : Int) < 2147483647 by decide), ?_, fun p np => q _ p (same_upd np) np ⟨_, _, 0, upd_same, (b01_mul _ (m0 _) (m1 _)).1, (b01_mul _ (m0 _) (m1 _)).2, Int.emod_nonneg _ (by decide), Int.emod_lt_of_pos _ (by decide), by decide, by decide⟩⟩
        show 3 ≤ sizeLine
        decide
/-! ### _law_take -/
def spTake : Sp := fun vs H Q _ => ∃ (a : Addr) (m : Int) (n : Nat), vs = [.ref a, .int m] ∧ Hand H a n ∧ n < 2 ^ 40 ∧ 0 < m ∧ m < 1073741824 ∧ ∀ H' d, Upto a H H' → Hand H' a (n + 1) → 0 ≤ d → d < m → Q (.int d) H'
theorem prime_of {r : Int} (h0 : 0 ≤ r) (h1 : r < 5) : ∃ p : Int, atI [V.int 2147483647, .int 2147483629, .int 2147483587, .int 2147483579, .int 2147483563] r = some (.int p) ∧ 0 < p := by
  obtain rfl | rfl | rfl | rfl | rfl : r = 0 ∨ r = 1 ∨ r = 2 ∨ r = 3 ∨ r = 4 := by omega
  · exact ⟨_, rfl, by decide⟩
  · exact ⟨_, rfl, by decide⟩
  · exact ⟨_, rfl, by decide⟩
  · exact ⟨_, rfl, by decide⟩
  · exact ⟨_, rfl, by decide⟩
theorem ok_take {f : Addr} {fd : FuncData} {k : Nat} (F : Fun K "_law_take" "_law_take" sTake f fd) (T : Bl mg) : FnOk P w K mg base CX0 (k + 1) f fd ["_law_hand_here", "_law_many"] spTake := by
  refine F.ok scT (fun vs H Q E h => ?_) (fun cdv A outer s H vs Q E hr h => ?_)
  · obtain ⟨a, m, n, rfl, _⟩ := h
    rfl
  · obtain ⟨a, m, n, rfl, ⟨g, x, c, e, g0, g1, x0, x1, c0, c1⟩, hn, m0, m1, q⟩ := h
    refine ⟨_, (pss_cons (ps_if (pt_cmpR op_gt (pe_ix ix_list (pv 0) pe_int (fun _ _ => rfl)) pe_int (nomark _))
  (pss_cons (ps_set (i := 2) scT.nd rfl (.inl rfl) (pe_op op_mod (pe_ix ix_list (pv 0) pe_int (fun _ _ => rfl)) (pv 1)))
  (pss_cons (ps_asg (pe_op op_fdiv (pe_ix ix_list (pv 0) pe_int (fun _ _ => rfl)) (pv 1)) (pg_sub (pv 0) pe_int set_list))
  (pss_one (ps_ret (pv 2)))))
  pss_nil)
  (pss_cons (ps_asg (pe_op op_add (pe_ix ix_list (pv 0) pe_int (fun _ _ => rfl)) pe_int) (pg_sub (pv 0) pe_int set_list))
  (pss_cons (ps_set (i := 3) scT.nd rfl (.inl rfl) (pe_ix ix_list (pe_lst (pa_cons pe_int (pa_cons pe_int (pa_cons pe_int (pa_cons pe_int (pa_cons pe_int pa_nil)))))) (pe_op op_mod (pe_ix ix_list (pv 0) pe_int (fun _ _ => rfl)) pe_int) (fun _ _ => rfl)))
  (pss_cons (ps_set (i := 4) scT.nd rfl (.inl rfl) (pe_op op_mod (pe_op op_pow (pe_op op_add (pe_ix ix_list (pv 0) pe_int (fun _ _ => rfl)) (pe_op op_mul pe_int (pe_ix ix_list (pv 0) pe_int (fun _ _ => rfl)))) pe_int) (pv 3)))
  (pss_one (ps_ret (pe_op op_mod (pe_op op_fdiv (pe_op op_mod (pe_op op_mul (pv 4) (pe_op op_add (pe_op op_mod (pv 4) pe_int) (pe_ix ix_list (pv 0) pe_int (fun _ _ => rfl)))) (pv 3)) pe_int) (pv 1)))))))), ?_⟩
    refine ⟨.ref a, rfl, a, _, 0, .int g, rfl, rfl, SqL.of e, rfl, g, 0, rfl, rfl, _, rfl, ite2 (fun hb => ?_) (fun hb => ?_)⟩
    · refine ⟨.ref a, rfl, a, _, 0, .int g, rfl, rfl, SqL.of e, rfl, .int m, rfl, g, m, rfl, rfl, m0, ?_⟩
      refine ⟨.ref a, rfl, a, _, 0, .int g, rfl, rfl, SqL.of e, rfl, .int m, rfl, g, m, rfl, rfl, ⟨m0, m1⟩, .ref a, rfl, a, _, 0, 0, rfl, rfl, e, rfl, ?_⟩
      refine ⟨_, rfl, q _ _ Upto.upd ⟨_, x, c, upd_same, Int.ediv_nonneg g0 (by omega), ?_, x0, x1, c0, by omega⟩ (Int.emod_nonneg _ (by omega)) (Int.emod_lt_of_pos _ m0)⟩
      exact Int.lt_of_le_of_lt (Int.ediv_le_self _ g0) g1
    · refine ⟨.ref a, rfl, a, _, 2, .int c, rfl, rfl, SqL.of e, rfl, c, 1, rfl, rfl, .ref a, rfl, a, _, 2, 2, rfl, rfl, e, rfl, ?_⟩
      have e1 : (upd H a (.lst [.int g, .int x, .int (c + 1)])) a = some (.lst [.int g, .int x, .int (c + 1)]) := upd_same
      refine ⟨by show 5 ≤ sizeLine; decide, fun l nl => ?_⟩
      have nla : a ≠ l := ne_of_none e1 nl
      have e2 : ∀ o, (upd (upd H a (.lst [.int g, .int x, .int (c + 1)])) l o) a = some (.lst [.int g, .int x, .int (c + 1)]) := fun o => by rw [upd_ne nla]; exact e1
      obtain ⟨p, hp, p0⟩ := prime_of (r := (c + 1) % 5) (Int.emod_nonneg _ (by decide)) (Int.emod_lt_of_pos _ (by decide))
      refine ⟨.ref a, rfl, a, _, 2, .int (c + 1), rfl, rfl, SqL.of (e2 _), rfl, c + 1, 5, rfl, rfl, (show (0 : Int) < 5 by decide), l, _, _, _, rfl, rfl, SqL.of upd_same, hp, ?_⟩
      refine ⟨.ref a, rfl, a, _, 1, .int x, rfl, rfl, SqL.of (e2 _), rfl, .ref a, rfl, a, _, 2, .int (c + 1), rfl, rfl, SqL.of (e2 _), rfl, 7919, c + 1, rfl, rfl, .inl ⟨by decide, by decide⟩, x, _, rfl, rfl, _, 3, rfl, rfl, ⟨by decide, by decide, by omega⟩, .int p, rfl, _, p, rfl, rfl, p0, ?_⟩
      refine ⟨_, rfl, _, rfl, _, 1009, rfl, rfl, (show (0 : Int) < 1009 by decide), .ref a, rfl, a, _, 2, .int (c + 1), rfl, rfl, SqL.of (e2 _), rfl, _, _, rfl, rfl, _, _, rfl, rfl, .inr ?_, .int p, rfl, _, p, rfl, rfl, p0, _, 11, rfl, rfl, ⟨by decide, by decide⟩, .int m, rfl, _, m, rfl, rfl, m0, ?_⟩
      · have := Int.emod_nonneg ((x + 7919 * (c + 1)) ^ (3 : Int).toNat % p) (show (1009 : Int) ≠ 0 by decide)
        have := Int.emod_lt_of_pos ((x + 7919 * (c + 1)) ^ (3 : Int).toNat % p) (show (0 : Int) < 1009 by decide)
        constructor <;> omega
      · refine q _ _ ((Upto.upd).trans (.new nl)) ⟨g, x, c + 1, e2 _, g0, g1, x0, x1, by omega, by omega⟩ (Int.emod_nonneg _ (by omega)) (Int.emod_lt_of_pos _ m0)
/-! ### _law_of, of a text -/
def spOfS : Sp := fun vs H Q _ => ∃ (a : Addr) (z : Str) (n : Nat), vs = [.ref a, .str z] ∧ Hand H a n ∧ n < 2 ^ 40 ∧ 0 < z.length ∧ z.length ≤ 1000 ∧ ∀ H' c, Upto a H H' → Hand H' a (n + 1) → c ∈ z.cps.toList → Q (.str ⟨#[c]⟩) H'
theorem ok_ofS {f fT : Addr} {fd fdT : FuncData} {k : Nat} (F : Fun K "_law_of" "_law_of" sOf f fd) (DT : Df K mg "_law_take" sTake ["_law_hand_here", "_law_many"] fT fdT) (T : Bl mg) : FnOk P w K mg base CX0 (k + 2) f fd ["_law_hand_here", "_law_some"] spOfS := by
  have GT : FnOk P w K mg base CX0 1 fT fdT _ spTake := ok_take DT.F T
  refine F.ok scO (fun vs H Q E h => ?_) (fun cdv A outer s H vs Q E hr h => ?_)
  · obtain ⟨a, m, n, rfl, _⟩ := h
    rfl
  · obtain ⟨a, z, n, rfl, hH, hn, z0, z1, q⟩ := h
    refine ⟨_, (pss_one (ps_ret (pe_ix ix_str (pv 1) (pe_call GT (hr.mono (by omega)) (by rfl) DT.g DT.F.kp DT.b .nil pass0 (pa_cons (pv 0) (pa_cons (pe_callB call_len_str (by rfl) T.len PySem.boot_len (pa_cons (pv 1) pa_nil)) pa_nil))) (fun _ _ => rfl)))), ?_⟩
    have zl : z.length ≤ sizeLine := Nat.le_trans z1 (by decide)
    refine ⟨.str z, rfl, .ref a, rfl, .str z, rfl, z, rfl, zl, a, _, n, rfl, hH, hn, by omega, by omega, fun H' d u h' d0 d1 => ?_⟩
    obtain ⟨c, e1, e2⟩ := at_of (xs := z.cps.toList) d0 (by rw [Array.length_toList]; exact d1)
    exact ⟨z, d, c, rfl, rfl, zl, e2, q H' c u h' (List.mem_of_getElem? e1)⟩
/-! ### _law_of, of a list -/
def spOfL : Sp := fun vs H Q _ => ∃ (a l : Addr) (xs : List V) (n : Nat), vs = [.ref a, .ref l] ∧ Hand H a n ∧ n < 2 ^ 40 ∧ l ≠ a ∧ H l = some (.lst xs) ∧ 0 < xs.length ∧ xs.length ≤ 1000 ∧ ∀ H' v, Upto a H H' → Hand H' a (n + 1) → v ∈ xs → Q v H'
theorem ok_ofL {f fT : Addr} {fd fdT : FuncData} {k : Nat} (F : Fun K "_law_of" "_law_of" sOf f fd) (DT : Df K mg "_law_take" sTake ["_law_hand_here", "_law_many"] fT fdT) (T : Bl mg) : FnOk P w K mg base CX0 (k + 2) f fd ["_law_hand_here", "_law_some"] spOfL := by
  have GT : FnOk P w K mg base CX0 1 fT fdT _ spTake := ok_take DT.F T
  refine F.ok scO (fun vs H Q E h => ?_) (fun cdv A outer s H vs Q E hr h => ?_)
  · obtain ⟨a, l, xs, n, rfl, _⟩ := h
    rfl
  · obtain ⟨a, l, xs, n, rfl, hH, hn, la, el, x0, x1, q⟩ := h
    refine ⟨_, (pss_one (ps_ret (pe_ix ix_list (pv 1) (pe_call GT (hr.mono (by omega)) (by rfl) DT.g DT.F.kp DT.b .nil pass0 (pa_cons (pv 0) (pa_cons (pe_callB call_len_seq (by rfl) T.len PySem.boot_len (pa_cons (pv 1) pa_nil)) pa_nil))) (fun _ _ => rfl)))), ?_⟩
    refine ⟨.ref l, rfl, .ref a, rfl, .ref l, rfl, l, xs, rfl, .inl (SqL.of el), a, _, n, rfl, hH, hn, by omega, by omega, fun H' d u h' d0 d1 => ?_⟩
    obtain ⟨v, e1, e2⟩ := at_of (xs := xs) d0 d1
    exact ⟨l, xs, d, v, rfl, rfl, SqL.of (u l _ la el), e2, q H' v u h' (List.mem_of_getElem? e1)⟩
end
end Cu

namespace Cu
open PySem PySem.Spec PyProof.Rows L2
abbrev sUp : Stmt := topS 1
abbrev sDown : Stmt := topS 2
abbrev sReach : Stmt := topS 3
abbrev sShare : Stmt := topS 4
abbrev sBelow : Stmt := topS 5
abbrev sListOf : Stmt := topS 6
theorem scUp : FnScope ["heap", "names"] ["heap", "names"] (defScope sUp) := ⟨rfl, rfl, rfl, by decide +kernel, rfl, by decide +kernel, by decide +kernel⟩
theorem scDown : FnScope ["heap", "names"] ["heap", "names"] (defScope sDown) := ⟨rfl, rfl, rfl, by decide +kernel, rfl, by decide +kernel, by decide +kernel⟩
theorem scReach : FnScope ["actions", "names", "reached", "found", "name", "documents"] ["actions", "names"] (defScope sReach) := ⟨rfl, rfl, rfl, by decide +kernel, rfl, by decide +kernel, by decide +kernel⟩
theorem scShare : FnScope ["documents", "others"] ["documents", "others"] (defScope sShare) := ⟨rfl, rfl, rfl, by decide +kernel, rfl, by decide +kernel, by decide +kernel⟩
theorem scBelow : FnScope ["heap", "name", "other"] ["heap", "name", "other"] (defScope sBelow) := ⟨rfl, rfl, rfl, by decide +kernel, rfl, by decide +kernel, by decide +kernel⟩
theorem scListOf : FnScope ["heap", "document"] ["heap", "document"] (defScope sListOf) := ⟨rfl, rfl, rfl, by decide +kernel, rfl, by decide +kernel, by decide +kernel⟩
theorem gen_scopeF {env : Env} {scope : Scope} {x o : Str} (h1 : scope.kind = .function) (h2 : scope.isCoroutine = false) (h3 : ∀ y ∈ scope.names, y.2 ≠ .cell ∧ (y.2 = .free → y.1 = o)) (h4 : scope.names.lookup (".0" : Str) = some NameKind.local) (h5 : scope.names.lookup x = some .local) (h6 : ∃ c, env.cells.lookup o = some c) : GxR.GenS env scope x :=
  ⟨h1, h2, fun y m => (h3 y m).1, h4, h5, fun y m e => by rw [(h3 y m).2 e]; exact h6⟩
section
variable {P : Program} {w : World} {K : PySem.W.Frag} {mg : Str → Option Value} {base : Heap}
def spShare (K : PySem.W.Frag) (tb : Addr) : Sp := fun vs H Q _ => ∃ (d o : Addr) (xs ys : List V), vs = [.ref d, .ref o] ∧ GxR.TabG H tb ∧ SqT K H d xs ∧ (SqL K H o ys ∨ SqT K H o ys) ∧ xs.all flatV = true ∧ ys.all flatV = true ∧ ∀ H', GxR.Tabbed tb H H' → Q (.bl (xs.any fun x => inV x ys)) H'
theorem ok_share {f c tb : Addr} {fd : FuncData} {k : Nat} (F : Fun K "share" "share" sShare f fd) (hc : fd.code = .ref c) (TB : GxR.TabB base mg c tb) (T : Bl mg) : FnOk P w K mg base CX0 (k + 1) f fd ["documents", "others"] (spShare K tb) := by
  refine okC F hc scShare (fun vs H Q E h => ?_) (fun A outer s H vs Q E hr h => ?_)
  · obtain ⟨d, o, xs, ys, rfl, _⟩ := h
    rfl
  · obtain ⟨d, o, xs, ys, rfl, tab, hx, hy, fx, fy, q⟩ := h
    refine ⟨_, (pss_one (ps_ret (pe_anyG hr (by rfl) T.any TB rfl (gen_scopeF (o := "others") rfl rfl (by decide +kernel) rfl rfl ⟨_, rfl⟩) (pv 0) (genR_in (j := 1) rfl rfl rfl rfl rfl rfl (fun cells c h => by
      show (some ((cells.lookup (Str.ofString "others")).getD 0)) = some c
      rw [h]
      rfl))))), ?_⟩
    refine ⟨.ref d, rfl, tab, _, _, ⟨d, o, xs, ys, rfl, hx, rfl, hy, fx, fy, rfl, rfl⟩, fun H2 tb2 => ?_⟩
    rw [inAt_any]
    exact q H2 tb2
def spList (K : PySem.W.Frag) (tb : Addr) : Sp := fun vs H Q _ => ∃ (v x0 : V) (rows : List Row), vs = [v, x0] ∧ GxR.TabG H tb ∧ Rows_ K H v rows ∧ flatV x0 = true ∧
  ∀ H2, GxR.Tabbed tb H H2 → ∀ l, H2 l = none → Q (.ref l) (upd H2 l (.tup ((rows.filter fun r => inV x0 r.2.2.2).map fun r => r.2.1)))
theorem ok_listOf {f c tb : Addr} {fd : FuncData} {k : Nat} (F : Fun K "list_of" "list_of" sListOf f fd) (hc : fd.code = .ref c) (TB : GxR.TabB base mg c tb) (T : Bl mg) : FnOk P w K mg base CX0 (k + 1) f fd ["heap", "document"] (spList K tb) := by
  refine okC F hc scListOf (fun vs H Q E h => ?_) (fun A outer s H vs Q E hr h => ?_)
  · obtain ⟨v, x0, rows, rfl, _⟩ := h
    rfl
  · obtain ⟨v, x0, rows, rfl, tab, hR, f0, q⟩ := h
    refine ⟨_, (pss_one (ps_ret (pe_tupG (j := 1) hr (by rfl) T.tuple TB rfl (gen_scopeF (o := "document") rfl rfl (by decide +kernel) rfl rfl ⟨_, rfl⟩) rfl (by decide) (pv 0) rfl rfl rfl rfl (fun cells c h => by
      show (some ((cells.lookup (Str.ofString "document")).getD 0)) = some c
      rw [h]
      rfl)))), ?_⟩
    exact ⟨v, rfl, tab, rows, x0, hR, rfl, f0, q⟩
end
end Cu

namespace Cu
open PySem PySem.Spec PyProof.Rows L2
/-- all as it was, but for one def's table -/
structure Tbk (tb : Addr) (H H' : Hp) : Prop where
  keep : ∀ b o, b ≠ tb → H b = some o → H' b = some o
  tab : GxR.TabG H' tb
theorem tab_ne {H : Hp} {tb p : Addr} (t : GxR.TabG H tb) (n : H p = none) : p ≠ tb := by
  obtain ⟨ps, e, _⟩ := t
  rintro rfl
  rw [e] at n
  cases n
theorem tab_new {H : Hp} {tb p : Addr} {o : HO} (t : GxR.TabG H tb) (n : H p = none) : GxR.TabG (upd H p o) tb := by
  have ne := tab_ne t n
  obtain ⟨ps, e, h⟩ := t
  exact ⟨ps, (upd_ne ne.symm).trans e, h⟩
theorem tab_put {H : Hp} {tb p : Addr} {o : HO} (t : GxR.TabG H tb) (n : p ≠ tb) : GxR.TabG (upd H p o) tb := by
  obtain ⟨ps, e, h⟩ := t
  exact ⟨ps, (upd_ne n.symm).trans e, h⟩
theorem Tbk.refl {tb : Addr} {H : Hp} (t : GxR.TabG H tb) : Tbk tb H H := ⟨fun _ _ _ e => e, t⟩
theorem Tbk.trans {tb : Addr} {H H1 H2 : Hp} (a : Tbk tb H H1) (b : Tbk tb H1 H2) : Tbk tb H H2 := ⟨fun x o n e => b.keep x o n (a.keep x o n e), b.tab⟩
theorem Tbk.of {tb : Addr} {H H' : Hp} (t : GxR.Tabbed tb H H') : Tbk tb H H' := ⟨fun b o n e => (t.2 b n).trans e, t.1⟩
theorem Tbk.new {tb p : Addr} {H : Hp} {o : HO} (t : GxR.TabG H tb) (n : H p = none) : Tbk tb H (upd H p o) := ⟨fun b x _ e => same_upd n b x e, tab_new t n⟩
theorem Tbk.put {tb p : Addr} {H H1 : Hp} {o : HO} (a : Tbk tb H H1) (n : H p = none) (np : p ≠ tb) : Tbk tb H (upd H1 p o) := ⟨fun b x nb e => (upd_ne (ne_of_none e n)).trans (a.keep b x nb e), tab_put a.tab np⟩
theorem Tbk.free {tb p : Addr} {H H1 : Hp} (a : Tbk tb H H1) (n : H1 p = none) (np : p ≠ tb) : H p = none := by
  cases h : H p with
  | none => rfl
  | some o =>
    rw [a.keep p o np h] at n
    cases n
theorem Tbk.same {tb : Addr} {F H H1 : Hp} (a : Tbk tb H H1) (s : Same F H) (ft : F tb = none) : Same F H1 := fun b o e => a.keep b o (ne_of_none e ft) (s b o e)
/-- a heap of actions, in the view F -/
structure HeapIn (F : Hp) (t : Addr) (rows : List Row) : Prop where
  at_ : F t = some (.tup (rows.map fun r => V.ref r.1))
  row : ∀ r ∈ rows, F r.1 = some (.tup [r.2.1, .ref r.2.2.1])
  doc : ∀ r ∈ rows, F r.2.2.1 = some (.tup r.2.2.2)
  flat : ∀ r ∈ rows, r.2.2.2.all flatV = true ∧ flatV r.2.1 = true
  few : ∀ r ∈ rows, r.2.2.2.length ≤ 8
theorem HeapIn.more {F F' : Hp} {t : Addr} {rows : List Row} (h : HeapIn F t rows) (s : Same F F') : HeapIn F' t rows :=
  ⟨s _ _ h.at_, fun r m => s _ _ (h.row r m), fun r m => s _ _ (h.doc r m), h.flat, h.few⟩
theorem HeapIn.rows {K : PySem.W.Frag} {F : Hp} {t : Addr} {rows : List Row} (h : HeapIn F t rows) : Rows_ K F (.ref t) rows :=
  ⟨⟨t, rfl, SqT.of h.at_⟩, fun r m => ⟨SqT.of (h.row r m), SqT.of (h.doc r m), (h.flat r m).1⟩⟩
/-- reach, as it is written -/
def step (ns : List V) (st : List V × List V) (r : Row) : List V × List V := if inV r.2.1 ns || (r.2.2.2.any fun x => inV x st.1) then (st.1 ++ r.2.2.2, st.2 ++ [r.2.1]) else st
def runs (ns : List V) (rows : List Row) : List V × List V := rows.foldl (step ns) ([], [])
def reachL (ns : List V) (rows : List Row) : List V := (runs ns rows).2
theorem runs_next (ns : List V) (rows : List Row) {i : Nat} {r : Row} (h : rows[i]? = some r) : runs ns (rows.take (i + 1)) = step ns (runs ns (rows.take i)) r := by
  unfold runs
  rw [List.take_add_one, h, List.foldl_append]
  rfl
section
variable {P : Program} {w : World} {K : PySem.W.Frag} {mg : Str → Option Value} {base : Heap}
def spReach (tb : Addr) : Sp := fun vs H Q _ => ∃ (F : Hp) (t n : Addr) (rows : List Row) (ns : List V), vs = [.ref t, .ref n] ∧ Same F H ∧ F tb = none ∧ GxR.TabG H tb ∧ HeapIn F t rows ∧ F n = some (.tup ns) ∧ ns.all flatV = true ∧ rows.length ≤ 100 ∧
  ∀ H' l, Tbk tb H H' → H l = none → H' l = some (.lst (reachL ns rows)) → Q (.ref l) H'
theorem ok_reach {f fS tb : Addr} {fd fdS : FuncData} (F : Fun K "reach" "reach" sReach f fd) (DS : Df K mg "share" sShare ["documents", "others"] fS fdS) (GS : FnOk P w K mg base CX0 1 fS fdS ["documents", "others"] (spShare K tb)) (T : Bl mg) :
    FnOk P w K mg base CX0 2 f fd ["actions", "names"] (spReach tb) := by
  refine F.ok scReach (fun vs H Q E h => ?_) (fun cdv A outer s H vs Q E hr h => ?_)
  · obtain ⟨G, t, n, rows, ns, rfl, _⟩ := h
    rfl
  · obtain ⟨G, t, n, rows, ns, rfl, sG, gt, tab, hp, en, fn, rl, q⟩ := h
    refine ⟨_, (pss_cons (ps_set (i := 2) scReach.nd rfl (.inl rfl) (pe_lst pa_nil))
  (pss_cons (ps_set (i := 3) scReach.nd rfl (.inl rfl) (pe_lst pa_nil))
  (pss_cons (ps_for PassesOwn.never rfl (pi_tup (pv 0)) (pg_tup rfl (pgs_cons (pg_name (i := 4) scReach.nd rfl (.inl rfl)) (pgs_cons (pg_name (i := 5) scReach.nd rfl (.inl rfl)) pgs_nil)))
  (pss_one (ps_if (PW.pt (pw_or (pt_cmpR op_in_seq (pv 4) (pv 1) (by rfl)) (pw_or1 (pt_val (pe_call GS hr (by rfl) DS.g DS.F.kp DS.b .nil pass0 (pa_cons (pv 5) (pa_cons (pv 2) pa_nil)))))))
  (pss_cons (ps_expr (pe_bm PySem.F.plainAttrs_list PySem.F.slot_list_append PySem.F.type_list_append mt_append (pv 3) (pa_cons (pv 4) pa_nil)))
  (pss_one (ps_expr (pe_bm PySem.F.plainAttrs_list PySem.F.slot_list_extend PySem.F.type_list_extend mt_extT (pv 2) (pa_cons (pv 5) pa_nil)))))
  pss_nil)))
  (pss_one (ps_ret (pv 3)))))), ?_⟩
    refine ⟨by show 0 ≤ sizeLine; decide, fun rd nrd => ⟨by show 0 ≤ sizeLine; decide, fun fo nfo => ?_⟩⟩
    have k1 : Tbk tb H _ := .new (o := .lst []) tab nrd
    have rdt := tab_ne tab nrd
    have k2 : Tbk tb H _ := k1.trans (.new (o := .lst []) k1.tab nfo)
    have fot := tab_ne k1.tab nfo
    have rdfo : rd ≠ fo := ne_of_none upd_same nfo
    have hfo : H fo = none := k1.free nfo fot
    refine ⟨.ref t, rfl, t, rfl, ⟨_, SqT.of (k2.same sG gt _ _ hp.at_)⟩, ?_⟩
    refine for_tup (K := K) (a := t) (xs := rows.map fun r => V.ref r.1) (fun i σ H1 => ∃ y4 y5, σ = [some (.ref t), some (.ref n), some (.ref rd), some (.ref fo), y4, y5] ∧ Tbk tb H H1 ∧ H1 rd = some (.lst (runs ns (rows.take i)).1) ∧ H1 fo = some (.lst (runs ns (rows.take i)).2) ∧
      (runs ns (rows.take i)).1.length ≤ 8 * i ∧ (runs ns (rows.take i)).2.length ≤ i ∧ (runs ns (rows.take i)).1.all flatV = true) ?_ ?_ ?_ ?_
    · exact ⟨none, none, rfl, k2, (upd_ne rdfo).trans upd_same, upd_same, Nat.le_refl _, Nat.le_refl _, rfl⟩
    · rintro i σ H1 _ ⟨_, _, _, k, _⟩
      exact SqT.of (k.same sG gt _ _ hp.at_)
    · rintro i x σ H1 hx ⟨y4, y5, rfl, k, e1, e2, l1, l2, fl⟩
      rw [List.getElem?_map] at hx
      obtain ⟨r, hr1, rfl⟩ := Option.map_eq_some_iff.mp hx
      have mr := List.mem_of_getElem? hr1
      have ilt : i < rows.length := (List.getElem?_eq_some_iff.mp hr1).1
      obtain ⟨fd1, fn1⟩ := hp.flat r mr
      have few := hp.few r mr
      have s1 := k.same sG gt
      refine ⟨r.1, _, rfl, SqT.of (s1 _ _ (hp.row r mr)), rfl, _, _, rfl, _, _, rfl, rfl, ?_⟩
      refine ⟨r.2.1, rfl, .ref n, rfl, n, ns, rfl, .inr (SqT.of (s1 _ _ en)), fn1, fn, _, rfl, ?_⟩
      have nx := runs_next ns rows hr1
      -- taken
      have yes : ∀ H2, Tbk tb H H2 → H2 rd = some (.lst (runs ns (rows.take i)).1) → H2 fo = some (.lst (runs ns (rows.take i)).2) → (inV r.2.1 ns || (r.2.2.2.any fun x => inV x (runs ns (rows.take i)).1)) = true →
          ∃ H3, H3 = upd (upd H2 fo (.lst ((runs ns (rows.take i)).2 ++ [r.2.1]))) rd (.lst ((runs ns (rows.take i)).1 ++ r.2.2.2)) ∧ Tbk tb H H3 ∧ H3 rd = some (.lst (runs ns (rows.take (i + 1))).1) ∧ H3 fo = some (.lst (runs ns (rows.take (i + 1))).2) ∧
            (runs ns (rows.take (i + 1))).1.length ≤ 8 * (i + 1) ∧ (runs ns (rows.take (i + 1))).2.length ≤ i + 1 ∧ (runs ns (rows.take (i + 1))).1.all flatV = true := by
        intro H2 k2 f1 f2 hb
        rw [nx]
        unfold step
        rw [if_pos hb]
        refine ⟨_, rfl, (k2.put hfo fot).put nrd rdt, upd_same, (upd_ne rdfo.symm).trans upd_same, ?_, ?_, ?_⟩
        · rw [List.length_append]
          omega
        · rw [List.length_append]
          show _ + 1 ≤ _
          omega
        · rw [List.all_append, fl, fd1]
          rfl
      have no : (inV r.2.1 ns || (r.2.2.2.any fun x => inV x (runs ns (rows.take i)).1)) = false → runs ns (rows.take (i + 1)) = runs ns (rows.take i) := by
        intro hb
        rw [nx]
        unfold step
        rw [if_neg (by rw [hb]; exact Bool.false_ne_true)]
      cases h1 : inV r.2.1 ns with
      | true =>
        refine iffT (by first | rfl | exact h1) ?_
        obtain ⟨H3, e3, k3, g1, g2, g3, g4, g5⟩ := yes H1 k e1 e2 (by rw [h1]; rfl)
        refine ⟨.ref fo, rfl, .inl ⟨rfl, _, SqL.of e2⟩, r.2.1, rfl, fo, _, _, rfl, rfl, e2, small1000 (by omega), ?_⟩
        refine ⟨.ref rd, rfl, .inl ⟨rfl, _, SqL.of ((upd_ne rdfo).trans e1)⟩, .ref r.2.2.1, rfl, rd, _, _, _, rfl, rfl, (upd_ne rdfo).trans e1, SqT.of ((k.put hfo fot).same sG gt _ _ (hp.doc r mr)), Nat.le_trans (show _ ≤ 1000 by omega) (by decide), ?_⟩
        rw [← e3]
        exact ⟨_, _, rfl, k3, g1, g2, g3, g4, g5⟩
      | false =>
        refine iffF (by first | rfl | exact h1) ?_
        refine ⟨.ref r.2.2.1, rfl, .ref rd, rfl, r.2.2.1, rd, _, _, rfl, k.tab, SqT.of (s1 _ _ (hp.doc r mr)), .inl (SqL.of e1), fd1, fl, fun H2 tb2 => ⟨_, rfl, ?_⟩⟩
        have k2 := k.trans (.of tb2)
        have e1' : H2 rd = _ := (tb2.2 rd rdt).trans e1
        have e2' : H2 fo = _ := (tb2.2 fo fot).trans e2
        cases h2 : (r.2.2.2.any fun x => inV x (runs ns (rows.take i)).1) with
        | true =>
          refine iffT (by first | rfl | exact h2) ?_
          obtain ⟨H3, e3, k3, g1, g2, g3, g4, g5⟩ := yes H2 k2 e1' e2' (by rw [h1, h2]; rfl)
          refine ⟨.ref fo, rfl, .inl ⟨rfl, _, SqL.of e2'⟩, r.2.1, rfl, fo, _, _, rfl, rfl, e2', small1000 (by omega), ?_⟩
          refine ⟨.ref rd, rfl, .inl ⟨rfl, _, SqL.of ((upd_ne rdfo).trans e1')⟩, .ref r.2.2.1, rfl, rd, _, _, _, rfl, rfl, (upd_ne rdfo).trans e1', SqT.of ((k2.put hfo fot).same sG gt _ _ (hp.doc r mr)), Nat.le_trans (show _ ≤ 1000 by omega) (by decide), ?_⟩
          rw [← e3]
          exact ⟨_, _, rfl, k3, g1, g2, g3, g4, g5⟩
        | false =>
          refine iffF (by first | rfl | exact h2) ?_
          have nn := no (by rw [h1, h2]; rfl)
          refine ⟨_, _, rfl, k2, ?_, ?_, ?_, ?_, ?_⟩
          · rw [nn]
            exact e1'
          · rw [nn]
            exact e2'
          · rw [nn]
            omega
          · rw [nn]
            omega
          · rw [nn]
            exact fl
    · rintro σ H1 ⟨y4, y5, rfl, k, e1, e2, l1, l2, fl⟩
      rw [List.length_map, List.take_length] at e2
      exact ⟨.ref fo, rfl, q H1 fo k hfo e2⟩
def spUp (tb : Addr) (g : List V → List Row → List V) : Sp := fun vs H Q _ => ∃ (F : Hp) (t n : Addr) (rows : List Row) (ns : List V), vs = [.ref t, .ref n] ∧ Same F H ∧ F tb = none ∧ GxR.TabG H tb ∧ HeapIn F t rows ∧ F n = some (.tup ns) ∧ ns.all flatV = true ∧ rows.length ≤ 100 ∧
  ∀ H' l, Tbk tb H H' → H l = none → H' l = some (.tup (g ns rows)) → Q (.ref l) H'
theorem ok_up {f fR tb : Addr} {fd fdR : FuncData} (F : Fun K "up" "up" sUp f fd) (DR : Df K mg "reach" sReach ["actions", "names"] fR fdR) (GR : FnOk P w K mg base CX0 2 fR fdR ["actions", "names"] (spReach tb)) (T : Bl mg) :
    FnOk P w K mg base CX0 3 f fd ["heap", "names"] (spUp tb reachL) := by
  refine F.ok scUp (fun vs H Q E h => ?_) (fun cdv A outer s H vs Q E hr h => ?_)
  · obtain ⟨G, t, n, rows, ns, rfl, _⟩ := h
    rfl
  · obtain ⟨G, t, n, rows, ns, rfl, sG, gt, tab, hp, en, fn, rl, q⟩ := h
    refine ⟨_, (pss_one (ps_ret (pe_callTy call_tuple_of (by rfl) T.tuple (by decide +kernel) (pa_cons (pe_call GR hr (by rfl) DR.g DR.F.kp DR.b .nil pass0 (pa_cons (pv 0) (pa_cons (pv 1) pa_nil))) pa_nil)))), ?_⟩
    refine ⟨.ref t, rfl, .ref n, rfl, G, t, n, rows, ns, rfl, sG, gt, tab, hp, en, fn, rl, fun H1 l k nl el => ?_⟩
    refine ⟨l, _, rfl, .inl ⟨SqL.of el, fun p np => ?_⟩⟩
    have pt := tab_ne k.tab np
    exact q _ p (k.trans (.new k.tab np)) (k.free np pt) upd_same
def downL (ns : List V) (rows : List Row) : List V := (reachL ns rows.reverse).reverse
theorem HeapIn.rev {F F' : Hp} {t p : Addr} {rows : List Row} (h : HeapIn F t rows) (s : Same F F') (e : F' p = some (.tup (rows.map fun r => V.ref r.1).reverse)) : HeapIn F' p rows.reverse :=
  ⟨by rw [List.map_reverse]; exact e, fun r m => s _ _ (h.row r (List.mem_reverse.mp m)), fun r m => s _ _ (h.doc r (List.mem_reverse.mp m)), fun r m => h.flat r (List.mem_reverse.mp m), fun r m => h.few r (List.mem_reverse.mp m)⟩
theorem ok_down {f fR tb : Addr} {fd fdR : FuncData} (F : Fun K "down" "down" sDown f fd) (DR : Df K mg "reach" sReach ["actions", "names"] fR fdR) (GR : FnOk P w K mg base CX0 2 fR fdR ["actions", "names"] (spReach tb)) (T : Bl mg) :
    FnOk P w K mg base CX0 3 f fd ["heap", "names"] (spUp tb downL) := by
  refine F.ok scDown (fun vs H Q E h => ?_) (fun cdv A outer s H vs Q E hr h => ?_)
  · obtain ⟨G, t, n, rows, ns, rfl, _⟩ := h
    rfl
  · obtain ⟨G, t, n, rows, ns, rfl, sG, gt, tab, hp, en, fn, rl, q⟩ := h
    refine ⟨_, (pss_one (ps_ret (pe_callTy call_tuple_of (by rfl) T.tuple (by decide +kernel) (pa_cons (pe_revL (pe_call GR hr (by rfl) DR.g DR.F.kp DR.b .nil pass0 (pa_cons (pe_revT (pv 0)) (pa_cons (pv 1) pa_nil)))) pa_nil)))), ?_⟩
    refine ⟨.ref t, rfl, t, _, rfl, SqT.of (sG _ _ hp.at_), fun b nb => ?_⟩
    have bt := tab_ne tab nb
    have s1 : Same G (upd G b (.tup (rows.map fun r => V.ref r.1).reverse)) := same_upd (sG.free nb)
    have k1 : Tbk tb H _ := .new (o := .tup (rows.map fun r => V.ref r.1).reverse) tab nb
    have sb : Same (upd G b (.tup (rows.map fun r => V.ref r.1).reverse)) (upd H b (.tup (rows.map fun r => V.ref r.1).reverse)) := by
      intro c o e
      by_cases z : c = b
      · subst z
        rw [upd_same] at e ⊢
        exact e
      · rw [upd_ne z] at e ⊢
        exact sG c o e
    refine ⟨.ref n, rfl, _, b, n, rows.reverse, ns, rfl, sb, (upd_ne bt.symm).trans gt, k1.tab, hp.rev s1 upd_same, s1 _ _ en, fn, by rw [List.length_reverse]; exact rl, fun H1 l k nl el => ?_⟩
    have k2 := k1.trans k
    refine ⟨l, _, rfl, SqL.of el, fun p np => ?_⟩
    have pt := tab_ne k.tab np
    have k3 := k2.trans (.new (o := .lst (reachL ns rows.reverse).reverse) k2.tab np)
    refine ⟨p, _, rfl, .inl ⟨SqL.of upd_same, fun p2 np2 => ?_⟩⟩
    have pt2 := tab_ne k3.tab np2
    exact q _ p2 (k3.trans (.new k3.tab np2)) (k3.free np2 pt2) upd_same
def spBelow (tb : Addr) : Sp := fun vs H Q _ => ∃ (F : Hp) (t : Addr) (rows : List Row) (a b : Str), vs = [.ref t, .str a, .str b] ∧ Same F H ∧ F tb = none ∧ GxR.TabG H tb ∧ HeapIn F t rows ∧ rows.length ≤ 100 ∧
  ∀ H', Tbk tb H H' → Q (.bl (decide (a ≠ b) && inV (.str b) (reachL [.str a] rows))) H'
theorem run_mem (ns : List V) : ∀ (rows : List Row) (st : List V × List V) (x : V), x ∈ (rows.foldl (step ns) st).2 → x ∈ st.2 ∨ ∃ r ∈ rows, x = r.2.1
  | [], st, x, h => .inl h
  | r :: rs, st, x, h => by
    rw [List.foldl_cons] at h
    rcases run_mem ns rs _ x h with h | ⟨r', m, e⟩
    · unfold step at h
      split at h
      · rcases List.mem_append.mp h with h | h
        · exact .inl h
        · exact .inr ⟨r, List.mem_cons_self, List.mem_singleton.mp h⟩
      · exact .inl h
    · exact .inr ⟨r', List.mem_cons_of_mem _ m, e⟩
theorem reach_mem {ns : List V} {rows : List Row} {x : V} (h : x ∈ reachL ns rows) : ∃ r ∈ rows, x = r.2.1 := by
  rcases run_mem ns rows _ x h with h | h
  · cases h
  · exact h
theorem reach_flat {F : Hp} {t : Addr} {rows : List Row} (hp : HeapIn F t rows) (ns : List V) : (reachL ns rows).all flatV = true := by
  rw [List.all_eq_true]
  intro x m
  obtain ⟨r, mr, rfl⟩ := reach_mem m
  exact (hp.flat r mr).2
theorem ok_below {f fU tb : Addr} {fd fdU : FuncData} (F : Fun K "is_below" "is_below" sBelow f fd) (DU : Df K mg "up" sUp ["heap", "names"] fU fdU) (GU : FnOk P w K mg base CX0 3 fU fdU ["heap", "names"] (spUp tb reachL)) (T : Bl mg) :
    FnOk P w K mg base CX0 4 f fd ["heap", "name", "other"] (spBelow tb) := by
  refine F.ok scBelow (fun vs H Q E h => ?_) (fun cdv A outer s H vs Q E hr h => ?_)
  · obtain ⟨G, t, rows, a, b, rfl, _⟩ := h
    rfl
  · obtain ⟨G, t, rows, a, b, rfl, sG, gt, tab, hp, rl, q⟩ := h
    refine ⟨_, (pss_one (ps_ret (pe_and (pe_cmpR op_ne (pv 1) (pv 2) (nomark _)) (pe_one (pe_cmpR op_in_seq (pv 2) (pe_call GU hr (by rfl) DU.g DU.F.kp DU.b .nil pass0 (pa_cons (pv 0) (pa_cons (pe_tup (pa_cons (pv 1) pa_nil)) pa_nil))) (by rfl)))))), ?_⟩
    refine ⟨.str a, rfl, .str b, rfl, rfl, _, rfl, ?_⟩
    by_cases ab : a = b
    · subst ab
      refine iffF (ne_self _) ?_
      have q' := q H (.refl tab)
      rw [show decide (a ≠ a) = false from decide_eq_false (fun z => z rfl), Bool.false_and] at q'
      exact q'
    · refine iffT ?_ ?_
      · rw [decide_eq_false (fun z => ab (V.str.inj z))]
        rfl
      · refine ⟨.str b, rfl, .ref t, rfl, .str a, rfl, by show 1 ≤ sizeLine; decide, fun p np => ?_⟩
        have pt := tab_ne tab np
        have s1 : Same G (upd G p (.tup [.str a])) := same_upd (sG.free np)
        have k1 : Tbk tb H _ := .new (o := .tup [.str a]) tab np
        have sb : Same (upd G p (.tup [.str a])) (upd H p (.tup [.str a])) := by
          intro c o e
          by_cases z : c = p
          · subst z
            rw [upd_same] at e ⊢
            exact e
          · rw [upd_ne z] at e ⊢
            exact sG c o e
        refine ⟨_, t, p, rows, [.str a], rfl, sb, (upd_ne pt.symm).trans gt, k1.tab, hp.more s1, upd_same, rfl, rl, fun H1 l k nl el => ?_⟩
        refine ⟨l, _, rfl, .inr (SqT.of el), rfl, reach_flat hp _, ?_⟩
        have q' := q H1 (k1.trans k)
        rw [show decide (a ≠ b) = true from decide_eq_true ab, Bool.true_and] at q'
        exact q'
end
end Cu

namespace Cu
open PySem PySem.Spec PyProof.Rows L2
def byName (ns : List V) (r : Row) : Bool := inV r.2.1 ns
def meets (r r' : Row) : Bool := r.2.2.2.any fun x => inV x r'.2.2.2
theorem any_docs (ds : List V) (fs : List Row) : (ds.any fun x => inV x (fs.flatMap fun r => r.2.2.2)) = fs.any fun r' => ds.any fun x => inV x r'.2.2.2 := by
  rw [Bool.eq_iff_iff, List.any_eq_true, List.any_eq_true]
  constructor
  · rintro ⟨x, mx, h⟩
    obtain ⟨y, my, e⟩ := List.any_eq_true.mp h
    obtain ⟨r, mr, yr⟩ := List.mem_flatMap.mp my
    exact ⟨r, mr, List.any_eq_true.mpr ⟨x, mx, List.any_eq_true.mpr ⟨y, yr, e⟩⟩⟩
  · rintro ⟨r, mr, h⟩
    obtain ⟨x, mx, h⟩ := List.any_eq_true.mp h
    obtain ⟨y, my, e⟩ := List.any_eq_true.mp h
    exact ⟨x, mx, List.any_eq_true.mpr ⟨y, List.mem_flatMap.mpr ⟨r, mr, my⟩, e⟩⟩
theorem runs_pick (ns : List V) (rows : List Row) : runs ns rows = ((pick (byName ns) meets rows).flatMap (fun r => r.2.2.2), (pick (byName ns) meets rows).map fun r => r.2.1) := by
  induction rows using snoc_ind with
  | h0 => rfl
  | h1 l r ih =>
    have e : runs ns (l ++ [r]) = step ns (runs ns l) r := by
      unfold runs
      rw [List.foldl_append]
      rfl
    rw [e, ih, pick_snoc]
    unfold step pick1
    rw [any_docs]
    show (if (byName ns r || (pick (byName ns) meets l).any (meets r)) = true then _ else _) = _
    split
    · rw [List.flatMap_append, List.map_append]
      simp
    · rfl
theorem reach_pick (ns : List V) (rows : List Row) : reachL ns rows = (pick (byName ns) meets rows).map fun r => r.2.1 := by
  unfold reachL
  rw [runs_pick]
end Cu

namespace Cu
open PySem PySem.Spec PyProof.Rows L2
abbrev sSub : Stmt := topS 11
abbrev nSub : List Str := ["_law_hand_here", "_law_some", "_law_count", "_law_left", "_law_turn", "_law_at"]
theorem scSub : FnScope nSub ["_law_hand_here", "_law_some", "_law_count"] (defScope sSub) := ⟨rfl, rfl, rfl, by decide +kernel, rfl, by decide +kernel, by decide +kernel⟩
def ixV (is : List Nat) : List V := is.map fun (i : Nat) => V.int (i : Int)
theorem ixV_erase (is : List Nat) (k : Nat) : (ixV is).eraseIdx k = ixV (is.eraseIdx k) := by
  unfold ixV
  induction is generalizing k with
  | nil => rfl
  | cons i r ih =>
    cases k with
    | zero => rfl
    | succ k =>
      show _ :: (List.map _ r).eraseIdx k = _ :: _
      rw [ih]
theorem pick_all {α : Type} (zs : List α) (d : α) : (List.range zs.length).map (fun i => zs.getD i d) = zs := by
  apply List.ext_getElem
  · rw [List.length_map, List.length_range]
  · intro i h1 h2
    rw [List.getElem_map, List.getElem_range, List.getD_eq_getElem?_getD, List.getElem?_eq_getElem h2]
    rfl
section
variable {P : Program} {w : World} {K : PySem.W.Frag} {mg : Str → Option Value} {base : Heap}
def spSub : Sp := fun vs H Q _ => ∃ (a so : Addr) (zs : List V) (c n : Nat), vs = [.ref a, .ref so, .int (c : Int)] ∧ Hand H a n ∧ n + 1000 < 2 ^ 40 ∧ so ≠ a ∧ H so = some (.lst zs) ∧ c ≤ zs.length ∧ zs.length ≤ 100 ∧
  ∀ H' t ys, Upto a H H' → Hand H' a (n + 100) → H t = none → H' t = some (.tup ys) → ys.Sublist zs → ys.length = c → Q (.ref t) H'
theorem ok_sub {f fT : Addr} {fd fdT : FuncData} {k : Nat} (F : Fun K "_law_subset" "_law_subset" sSub f fd) (DT : Df K mg "_law_take" sTake ["_law_hand_here", "_law_many"] fT fdT) (T : Bl mg) : FnOk P w K mg base CX0 (k + 2) f fd ["_law_hand_here", "_law_some", "_law_count"] spSub := by
  have GT : FnOk P w K mg base CX0 1 fT fdT _ spTake := ok_take DT.F T
  refine F.ok scSub (fun vs H Q E h => ?_) (fun cdv A outer s H vs Q E hr h => ?_)
  · obtain ⟨a, so, zs, c, n, rfl, _⟩ := h
    rfl
  · obtain ⟨a, so, zs, c, n, rfl, hH, hn, sa, es, cz, z1, q⟩ := h
    refine ⟨_, (pss_cons (ps_set (i := 3) scSub.nd rfl (.inl rfl) (pe_listRg rfl (by rfl) T.list (prg_1 (by rfl) T.range (pe_callB call_len_seq (by rfl) T.len PySem.boot_len (pa_cons (pv 1) pa_nil)))))
  (pss_cons (ps_for PassesOwn.never rfl (pi_range1 (by rfl) T.range (pa_cons (pe_op op_sub (pe_callB call_len_seq (by rfl) T.len PySem.boot_len (pa_cons (pv 1) pa_nil)) (pv 2)) pa_nil)) (pg_name (i := 4) scSub.nd rfl (.inl rfl))
  (pss_one (ps_expr (pe_bm PySem.F.plainAttrs_list PySem.F.slot_list_pop PySem.F.type_list_pop mt_popAt (pv 3) (pa_cons (pe_call GT (hr.mono (by omega)) (by rfl) DT.g DT.F.kp DT.b .nil pass0 (pa_cons (pv 0) (pa_cons (pe_callB call_len_seq (by rfl) T.len PySem.boot_len (pa_cons (pv 3) pa_nil)) pa_nil))) pa_nil)))))
  (pss_one (ps_ret (pe_callTy call_tuple_of (by rfl) T.tuple (by decide +kernel) (pa_cons (pe_lc (own := [("_law_at", 5)]) (g := gName 5) (tt := tYes) rfl scSub.nd (pi_list (pv 3)) (blkOk_by (own := [("_law_at", 5)]) (N := nSub) (sc := defScope sSub) (by decide +kernel)) (fun _ _ _ _ _ => (pg_name (i := 5) scSub.nd rfl (.inl rfl))) (fun _ _ _ _ _ => pts_nil) (fun _ _ _ _ _ => (pe_ix (show IxR _ (rIxL K) from ix_list) (pv 1) (pv 5) (fun _ _ => rfl)))) pa_nil)))))), ?_⟩
    refine ⟨.ref so, rfl, so, zs, rfl, .inl (SqL.of es), _, rfl, RgOk.of_le (by omega) (by omega) (by omega) (by omega), fun lf nlf => ?_⟩
    have la : lf ≠ a := Hand.ne hH.some nlf
    have lso : so ≠ lf := ne_of_none es nlf
    have e0 : rgV 0 (zs.length : Int) = ixV (List.range zs.length) := by
      unfold rgV ixV
      rw [show ((zs.length : Int) - 0).toNat = zs.length by omega]
      exact List.map_congr_left fun i _ => by rw [Int.zero_add]
    rw [e0]
    refine ⟨.ref so, rfl, so, zs, rfl, .inl (SqL.of ((upd_ne lso).trans es)), .int c, rfl, zs.length, c, rfl, rfl, _, rfl, by omega, by omega, ?_⟩
    refine for_range (lo := 0) (n := ((zs.length : Int) - c).toNat) (fun i σ H1 => ∃ (y4 y5 : Option V) (is : List Nat), σ = [some (.ref a), some (.ref so), some (.int c), some (.ref lf), y4, y5] ∧ Upto a H H1 ∧ Hand H1 a (n + i) ∧ H1 lf = some (.lst (ixV is)) ∧ is.Sublist (List.range zs.length) ∧ is.length + i = zs.length) ?_ ?_ ?_
    · exact ⟨none, none, List.range zs.length, rfl, .new nlf, hH.new nlf, upd_same, List.Sublist.refl _, by rw [List.length_range]; rfl⟩
    · rintro i σ H1 hi ⟨y4, y5, is, rfl, u1, h1, el, sub, len⟩
      have isl : (ixV is).length = is.length := List.length_map _
      refine ⟨.ref lf, rfl, .inl ⟨rfl, _, SqL.of el⟩, .ref a, rfl, .ref lf, rfl, lf, _, rfl, .inl (SqL.of el), a, _, n + i, rfl, h1, by omega, by omega, by omega, fun H2 d u2 h2 d0 d1 => ?_⟩
      have el2 : H2 lf = _ := u2 lf _ la el
      obtain ⟨v, g1, g2⟩ := at_of (xs := ixV is) d0 d1
      obtain ⟨j, s1, s2, s3, _, _⟩ := atI_get g2
      refine ⟨lf, _, d, j, v, rfl, rfl, el2, by omega, by omega, s1, s2, ?_⟩
      rw [ixV_erase]
      refine ⟨_, _, is.eraseIdx j, rfl, (u1.trans u2).put nlf, (h2.at (upd_ne la.symm)).mono (by omega), upd_same, (List.eraseIdx_sublist _ _).trans sub, ?_⟩
      rw [List.length_eraseIdx, if_pos (by omega)]
      omega
    · rintro σ H1 ⟨y4, y5, is, rfl, u1, h1, el, sub, len⟩
      have esz : H1 so = some (.lst zs) := u1 so _ sa es
      refine ⟨.ref lf, rfl, lf, rfl, ⟨_, SqL.of el⟩, fun D nD => ?_⟩
      have Da := Hand.ne h1.some nD
      have Dso : so ≠ D := ne_of_none esz nD
      have Dlf : lf ≠ D := ne_of_none el nD
      have isl : (ixV is).length = is.length := List.length_map _
      refine lc_list (K := K) (a := lf) (xs := ixV is) (fun i H2 => H2 = upd H1 D (.lst ((is.take i).map fun i => zs.getD i .non))) ?_ ?_ ?_ ?_
      · rfl
      · rintro i H2 _ rfl
        exact SqL.of ((upd_ne Dlf).trans el)
      · rintro i x H2 hx rfl
        unfold ixV at hx
        rw [List.getElem?_map] at hx
        obtain ⟨j, hj, rfl⟩ := Option.map_eq_some_iff.mp hx
        have jm := List.mem_range.mp (sub.subset (List.mem_of_getElem? hj))
        refine ⟨rfl, lc_yes ?_⟩
        obtain ⟨v, g1, g2⟩ := at_of (xs := zs) (i := (j : Int)) (by omega) (by omega)
        refine ⟨.ref so, rfl, .int j, rfl, so, zs, j, v, rfl, rfl, SqL.of ((upd_ne Dso).trans esz), g2, _, upd_same, ?_, ?_⟩
        · rw [List.length_map]
          rw [List.length_take]
          exact small1000 (by omega)
        · rw [upd_upd, List.take_add_one, hj, List.map_append]
          have ev : zs.getD j .non = v := by
            rw [List.getD_eq_getElem?_getD]
            rw [Int.toNat_natCast] at g1
            rw [g1]
            rfl
          show _ = upd H1 D (.lst (_ ++ [zs.getD j .non]))
          rw [ev]
      · rintro H2 rfl
        rw [isl, List.take_length]
        refine ⟨D, _, rfl, .inl ⟨SqL.of upd_same, fun t nt => ?_⟩⟩
        have uD : Upto a H (upd H1 D _) := u1.trans (.new (o := .lst (is.map fun i => zs.getD i .non)) nD)
        have ta : t ≠ a := Hand.ne (h1.new nD).some nt
        refine q _ t (is.map fun i => zs.getD i .non) (uD.trans (.new nt)) (((h1.new nD).new nt).mono (by omega)) (uD.free ta nt) upd_same ?_ ?_
        · have := sub.map (fun i => zs.getD i .non)
          rw [pick_all] at this
          exact this
        · rw [List.length_map]
          omega
end
end Cu

namespace Cu
open PySem PySem.Spec PyProof.Rows L2
abbrev sHeap : Stmt := topS 12
abbrev nHeap : List Str := ["_law_hand_here", "_law_count", "_law_width", "_law_letters", "_law_pool", "_law_documents", "_law_found", "_law_turn", "_law_name", "_law_size", "_law_at"]
theorem scHeap : FnScope nHeap ["_law_hand_here", "_law_count", "_law_width"] (defScope sHeap) := ⟨rfl, rfl, rfl, by decide +kernel, rfl, by decide +kernel, by decide +kernel⟩
def tails : List Str := ["", "y", "longest"]
def nameAt (i : Nat) : Str := (⟨#[97 + i % 26]⟩ : Str) ++ tails.getD (i / 26) ""
def pool (n : Nat) : List Str := (List.range n).map nameAt
theorem pool_nodup {n : Nat} (h : n ≤ 40) : (pool n).Nodup := by
  have e : (pool 40).Nodup := by decide +kernel
  have s : (pool n).Sublist (pool 40) := by
    unfold pool
    exact (List.range_sublist.mpr h).map _
  exact e.sublist s
theorem pool_sub {n : Nat} (h : n ≤ 40) {z : Str} (m : z ∈ pool n) : z ∈ pool 40 := by
  unfold pool at m ⊢
  exact ((List.range_sublist.mpr h).map _).subset m
abbrev abc : Str := "abcdefghijklmnopqrstuvwxyz"
theorem abc_at {i : Nat} : atI abc.cps.toList (((i : Nat) : Int) % 26) = some (97 + i % 26) := by
  have e : ∀ j < 26, atI abc.cps.toList ((j : Nat) : Int) = some (97 + j) := by decide +kernel
  have := e (i % 26) (Nat.mod_lt _ (by decide))
  rw [← this]
  congr 1
theorem tail_at {i : Nat} (h : i < 40) : atI [V.str "", .str "y", .str "longest"] (((i : Nat) : Int) / 26) = some (.str (tails.getD (i / 26) "")) := by
  have e : ∀ i < 40, atI [V.str "", .str "y", .str "longest"] (((i : Nat) : Int) / 26) = some (.str (tails.getD (i / 26) "")) := by decide +kernel
  exact e i h
theorem name_short {i : Nat} (h : i < 40) : (nameAt i).length ≤ 8 ∧ (tails.getD (i / 26) "").length ≤ 7 := by
  have e : ∀ i < 40, (nameAt i).length ≤ 8 ∧ (tails.getD (i / 26) "").length ≤ 7 := by decide +kernel
  exact e i h
def docs8 : List V := [.str "a", .str "b", .str "c", .str "doc", .str "e", .str "longname", .str "z", .str "zz"]
theorem docs_cut {wd : Nat} (h : wd ≤ 8) : cutV docs8 none (some (wd : Int)) = docs8.take wd ∧ (docs8.take wd).length = wd := by
  have e : ∀ wd < 9, cutV docs8 none (some ((wd : Nat) : Int)) = docs8.take wd ∧ (docs8.take wd).length = wd := by decide +kernel
  exact e wd (by omega)
theorem docs_flat {ys : List V} (h : ys.Sublist docs8) : ys.all flatV = true ∧ ys.length ≤ 8 := by
  refine ⟨?_, h.length_le⟩
  rw [List.all_eq_true]
  intro y m
  have e : docs8.all flatV = true := by decide +kernel
  exact List.all_eq_true.mp e y (h.subset m)
theorem same_at {F H : Hp} {t : Addr} {o : HO} (s : Same F H) (e : H t = some o) : Same (upd F t o) H := fun b x eb => by
  by_cases z : b = t
  · subst z
    rw [upd_same] at eb
    cases eb
    exact e
  · rw [upd_ne z] at eb
    exact s b x eb
theorem erase_str (ps : List Str) (k : Nat) : (ps.map V.str).eraseIdx k = (ps.eraseIdx k).map V.str := by
  induction ps generalizing k with
  | nil => rfl
  | cons i r ih =>
    cases k with
    | zero => rfl
    | succ k =>
      show _ :: (List.map _ r).eraseIdx k = _ :: _
      rw [ih]
theorem erase_perm : ∀ (ps : List Str) (j : Nat) (y : Str), ps[j]? = some y → (y :: ps.eraseIdx j).Perm ps
  | x :: r, 0, y, e => by
    cases e
    exact List.Perm.refl _
  | x :: r, j + 1, y, e => (List.Perm.swap x y (r.eraseIdx j)).trans ((erase_perm r j y e).cons x)
theorem taken_nodup {zs ps : List Str} {j : Nat} {y : Str} (nd : (zs ++ ps).Nodup) (e : ps[j]? = some y) : ((zs ++ [y]) ++ ps.eraseIdx j).Nodup := by
  have : (zs ++ (y :: ps.eraseIdx j)).Perm (zs ++ ps) := List.Perm.append_left zs (erase_perm ps j y e)
  rw [List.append_assoc]
  exact this.nodup_iff.mpr nd
theorem taken_mem {zs ps : List Str} {j : Nat} {y z : Str} (e : ps[j]? = some y) (m : z ∈ (zs ++ [y]) ++ ps.eraseIdx j) : z ∈ zs ++ ps := by
  have : (zs ++ (y :: ps.eraseIdx j)).Perm (zs ++ ps) := List.Perm.append_left zs (erase_perm ps j y e)
  rw [List.append_assoc] at m
  exact this.mem_iff.mp m
/-- the heap so far -/
structure Made (a D dc fo : Addr) (G H : Hp) (n N wd i : Nat) (rows : List Row) (zs ps : List Str) (F1 H1 : Hp) : Prop where
  made : Mk a G H F1 H1
  hand : Hand H1 a (n + 102 * i)
  d1 : F1 D = none
  d2 : F1 dc = none
  d3 : F1 fo = none
  eD : H1 D = some (.lst (ps.map V.str))
  edc : H1 dc = some (.lst (docs8.take wd))
  efo : H1 fo = some (.lst (rows.map fun r => V.ref r.1))
  len : rows.length = i
  row : ∀ r ∈ rows, F1 r.1 = some (.tup [r.2.1, .ref r.2.2.1])
  doc : ∀ r ∈ rows, F1 r.2.2.1 = some (.tup r.2.2.2)
  sub : ∀ r ∈ rows, r.2.2.2.Sublist docs8
  nms : rows.map (fun r => r.2.1) = zs.map V.str
  nd : (zs ++ ps).Nodup
  sz : ps.length + i = N
  inn : ∀ z ∈ zs ++ ps, z ∈ pool N
section
variable {P : Program} {w : World} {K : PySem.W.Frag} {mg : Str → Option Value} {base : Heap}
def spHeap : Sp := fun vs H Q _ => ∃ (a : Addr) (c wd n : Nat) (F : Hp), vs = [.ref a, .int (c : Int), .int (wd : Int)] ∧ Hand H a n ∧ n + 10000 < 2 ^ 40 ∧ c ≤ 40 ∧ 1 ≤ wd ∧ wd ≤ 8 ∧ Same F H ∧ F a = none ∧
  ∀ F' H' t rows (zs : List Str), Mk a F H F' H' → Hand H' a (n + 102 * c) → HeapIn F' t rows → rows.length = c → rows.map (fun r => r.2.1) = zs.map V.str → zs.Nodup → (∀ z ∈ zs, z ∈ pool 40) → (∀ r ∈ rows, r.2.2.2.Sublist docs8) → Q (.ref t) H'
theorem ok_heap {f fT fO fS : Addr} {fd fdT fdO fdS : FuncData} {k : Nat} (F : Fun K "_law_heap" "_law_heap" sHeap f fd) (DT : Df K mg "_law_take" sTake ["_law_hand_here", "_law_many"] fT fdT) (DO : Df K mg "_law_of" sOf ["_law_hand_here", "_law_some"] fO fdO) (DS : Df K mg "_law_subset" sSub ["_law_hand_here", "_law_some", "_law_count"] fS fdS) (T : Bl mg) :
    FnOk P w K mg base CX0 (k + 3) f fd ["_law_hand_here", "_law_count", "_law_width"] spHeap := by
  have GT : FnOk P w K mg base CX0 1 fT fdT _ spTake := ok_take DT.F T
  have GL : FnOk P w K mg base CX0 2 fO fdO _ spOfL := ok_ofL DO.F DT T
  have GS : FnOk P w K mg base CX0 2 fS fdS _ spSub := ok_sub DS.F DT T
  refine F.ok scHeap (fun vs H Q E h => ?_) (fun cdv A outer s H vs Q E hr h => ?_)
  · obtain ⟨a, c, wd, n, G, rfl, _⟩ := h
    rfl
  · obtain ⟨a, c, wd, n, G, rfl, hH, hn, c40, w1, w8, sG, ga, q⟩ := h
    refine ⟨_, (pss_cons (ps_set (i := 3) scHeap.nd rfl (.inr rfl) pe_str)
  (pss_cons (ps_setLc (i := 4) (own := [("_law_at", 10)]) (g := gName 10) (tt := tYes) rfl scHeap.nd rfl rfl (sw_true rfl rfl rfl (by decide +kernel)) (pi_range1 (by rfl) T.range (pa_cons (pe_callB (call_max2 rfl) (by rfl) T.max (by decide +kernel) (pa_cons pe_int (pa_cons (pv 1) pa_nil))) pa_nil)) (blkOk_by (own := [("_law_at", 10)]) (N := nHeap) (sc := defScope sHeap) (by decide +kernel)) (fun _ _ _ _ _ => (pg_name (i := 10) scHeap.nd rfl (.inl rfl))) (fun _ _ _ _ _ => pts_nil) (fun _ _ _ _ _ => (pe_op op_add_str (pe_ix ix_str (pv 3) (pe_op op_mod (pv 10) pe_int) (fun _ _ => rfl)) (pe_ix (show IxR _ (rIxL K) from ix_list) (pe_lst (pa_cons pe_str (pa_cons pe_str (pa_cons pe_str pa_nil)))) (pe_op op_fdiv (pv 10) pe_int) (fun _ _ => rfl)))))
  (pss_cons (ps_set (i := 5) scHeap.nd rfl (.inl rfl) (pe_slice sl_list (pe_lst (pa_cons pe_str (pa_cons pe_str (pa_cons pe_str (pa_cons pe_str (pa_cons pe_str (pa_cons pe_str (pa_cons pe_str (pa_cons pe_str pa_nil))))))))) po_none (po_some (pv 2))))
  (pss_cons (ps_set (i := 6) scHeap.nd rfl (.inl rfl) (pe_lst pa_nil))
  (pss_cons (ps_for PassesOwn.never rfl (pi_range1 (by rfl) T.range (pa_cons (pv 1) pa_nil)) (pg_name (i := 7) scHeap.nd rfl (.inl rfl))
  (pss_cons (ps_set (i := 8) scHeap.nd rfl (.inl rfl) (pe_bm PySem.F.plainAttrs_list PySem.F.slot_list_pop PySem.F.type_list_pop mt_popAt (pv 4) (pa_cons (pe_call GT (hr.mono (by omega)) (by rfl) DT.g DT.F.kp DT.b .nil pass0 (pa_cons (pv 0) (pa_cons (pe_callB call_len_seq (by rfl) T.len PySem.boot_len (pa_cons (pv 4) pa_nil)) pa_nil))) pa_nil)))
  (pss_cons (ps_set (i := 9) scHeap.nd rfl (.inl rfl) (pe_callB (call_min2 rfl) (by rfl) T.min (by decide +kernel) (pa_cons (pv 2) (pa_cons (pe_call GL (hr.mono (by omega)) (by rfl) DO.g DO.F.kp DO.b .nil pass0 (pa_cons (pv 0) (pa_cons (pe_lst (pa_cons pe_int (pa_cons pe_int (pa_cons pe_int (pa_cons pe_int (pa_cons pe_int (pa_cons pe_int (pa_cons pe_int pa_nil)))))))) pa_nil))) pa_nil))))
  (pss_one (ps_expr (pe_bm PySem.F.plainAttrs_list PySem.F.slot_list_append PySem.F.type_list_append mt_append (pv 6) (pa_cons (pe_tup (pa_cons (pv 8) (pa_cons (pe_call GS (hr.mono (by omega)) (by rfl) DS.g DS.F.kp DS.b .nil pass0 (pa_cons (pv 0) (pa_cons (pv 5) (pa_cons (pv 9) pa_nil)))) pa_nil))) pa_nil)))))))
  (pss_one (ps_ret (pe_callTy call_tuple_of (by rfl) T.tuple (by decide +kernel) (pa_cons (pv 6) pa_nil))))))))), ?_⟩
    refine ⟨.int c, rfl, 26, c, rfl, ?_⟩
    obtain ⟨N, hN, N40, cN, N1⟩ : ∃ N : Nat, (if (c : Int) > 26 then (c : Int) else 26) = (N : Int) ∧ N ≤ 40 ∧ c ≤ N ∧ 0 < N := by
      by_cases z : (c : Int) > 26
      · exact ⟨c, if_pos z, c40, Nat.le_refl _, by omega⟩
      · exact ⟨26, if_neg z, by decide, by omega, by decide⟩
    rw [hN]
    refine ⟨N, rfl, by omega, by omega, fun D nD => ?_⟩
    have Da := Hand.ne hH.some nD
    refine lc_range (lo := 0) (n := (N : Int).toNat) (fun i H2 => H2 D = some (.lst ((pool i).map V.str)) ∧ Same H H2) ?_ ?_ ?_
    · exact ⟨upd_same, same_upd nD⟩
    · rintro i H2 hi ⟨eD, s2⟩
      refine ⟨rfl, lc_yes ?_⟩
      have i40 : i < 40 := by omega
      refine ⟨.str abc, rfl, .int (0 + (i : Nat)), rfl, 0 + (i : Nat), 26, rfl, rfl, (show (0 : Int) < 26 by decide), abc, _, 97 + i % 26, rfl, rfl, by decide +kernel, by rw [Int.zero_add]; exact abc_at, by show 3 ≤ sizeLine; decide, fun l nl => ?_⟩
      refine ⟨.int (0 + (i : Nat)), rfl, 0 + (i : Nat), 26, rfl, rfl, ⟨by decide, by decide⟩, l, _, _, .str (tails.getD (i / 26) ""), rfl, rfl, SqL.of upd_same, by rw [Int.zero_add]; exact tail_at i40, _, _, rfl, rfl, ?_, _, (upd_ne (ne_of_none eD nl)).trans eD, ?_, ?_, ?_⟩
      · have := (name_short i40).2
        show 1 + (tails.getD (i / 26) "").length ≤ sizeLine
        exact Nat.le_trans (show 1 + (tails.getD (i / 26) "").length ≤ 1000 by omega) (by decide)
      · rw [List.length_map]
        unfold pool
        rw [List.length_map, List.length_range]
        exact small1000 (by omega)
      · rw [upd_same]
        unfold pool
        rw [List.range_succ, List.map_append, List.map_append]
        rfl
      · exact same_put (s2.trans (same_upd nl)) nD
    · rintro H2 ⟨eD, s2⟩
      rw [Int.toNat_natCast] at eD
      refine ⟨by show 8 ≤ sizeLine; decide, fun l8 n8 => ⟨.int wd, rfl, wd, rfl, l8, docs8, rfl, SqL.of upd_same, fun dc ndc => ⟨by show 0 ≤ sizeLine; decide, fun fo nfo => ⟨.int c, rfl, c, rfl, by omega, by omega, ?_⟩⟩⟩⟩
      have s3 := (s2.trans (same_upd (o := .lst docs8) n8)).trans (same_upd (o := .lst (cutV docs8 none (some (wd : Int)))) ndc)
      have s4 := s3.trans (same_upd (o := .lst []) nfo)
      have hdc : H dc = none := (s2.trans (same_upd (o := .lst docs8) n8)).free ndc
      have hfo : H fo = none := s3.free nfo
      have Ddc : D ≠ dc := ne_of_none ((same_upd (o := .lst docs8) n8) _ _ eD) ndc
      have Dfo : D ≠ fo := ne_of_none ((same_upd (o := .lst (cutV docs8 none (some (wd : Int)))) ndc) _ _ ((same_upd (o := .lst docs8) n8) _ _ eD)) nfo
      have dcfo : dc ≠ fo := ne_of_none upd_same nfo
      have aD : a ≠ D := Da.symm
      have adc : a ≠ dc := by
        rintro rfl
        obtain ⟨o, eo⟩ := hH.some
        rw [eo] at hdc
        cases hdc
      have afo : a ≠ fo := by
        rintro rfl
        obtain ⟨o, eo⟩ := hH.some
        rw [eo] at hfo
        cases hfo
      have pl : (pool N).length = N := by
        unfold pool
        rw [List.length_map, List.length_range]
      refine for_range (lo := 0) (n := (c : Int).toNat) (fun i σ H1 => ∃ (y7 y8 y9 y10 : Option V) (rows : List Row) (zs ps : List Str) (F1 : Hp), σ = [some (.ref a), some (.int c), some (.int wd), some (.str abc), some (.ref D), some (.ref dc), some (.ref fo), y7, y8, y9, y10] ∧ Made a D dc fo G H n N wd i rows zs ps F1 H1) ?_ ?_ ?_
      · refine ⟨_, _, _, _, [], [], pool N, G, rfl, ⟨⟨.of s4, ?_, sG.trans s4, Same.refl _, fun _ _ _ z => z⟩, hH.same s4, sG.free nD, sG.free hdc, sG.free hfo, ?_, ?_, upd_same, rfl, fun r m => (nomatch m), fun r m => (nomatch m), fun r m => (nomatch m), rfl, pool_nodup N40, pl, fun z m => m⟩⟩
        · exact (hH.same s4).some
        · exact (same_upd (o := .lst []) nfo) _ _ ((same_upd (o := .lst (cutV docs8 none (some (wd : Int)))) ndc) _ _ ((same_upd (o := .lst docs8) n8) _ _ eD))
        · rw [(docs_cut w8).1]
          exact (upd_ne dcfo).trans upd_same
      · rintro i σ H1 hi ⟨y7, y8, y9, y10, rows, zs, ps, F1, rfl, M⟩
        have ic : i < c := by omega
        have psz := M.sz
        have F1a := M.made.fa hH.some ga
        have pml : (ps.map V.str).length = ps.length := List.length_map _
        refine ⟨.ref D, rfl, .inl ⟨rfl, _, SqL.of M.eD⟩, .ref a, rfl, .ref D, rfl, D, _, rfl, .inl (SqL.of M.eD), a, _, _, rfl, M.hand, by omega, by omega, by omega, fun H2 d u2 h2 d0 d1 => ?_⟩
        obtain ⟨v, g1, g2⟩ := at_of (xs := ps.map V.str) d0 d1
        obtain ⟨j, q1, q2, q3, _, _⟩ := atI_get g2
        have q2' := q2
        rw [List.getElem?_map] at q2'
        obtain ⟨y, hy, rfl⟩ := Option.map_eq_some_iff.mp q2'
        refine ⟨D, _, d, j, .str y, rfl, rfl, u2 D _ aD.symm M.eD, by omega, by omega, q1, q2, ?_⟩
        rw [erase_str]
        -- the size
        refine ⟨.int wd, rfl, .ref a, rfl, by show 7 ≤ sizeLine; decide, fun l nl => ?_⟩
        have h2' : Hand (upd H2 D (.lst ((ps.eraseIdx j).map V.str))) a _ := h2.at (upd_ne aD)
        have la := Hand.ne h2'.some nl
        refine ⟨a, l, _, _, rfl, h2'.new nl, by omega, la, upd_same, (by show 0 < 7; decide), (by show 7 ≤ 1000; decide), fun H4 v u4 h4 mv => ?_⟩
        obtain ⟨t4, rfl, t5⟩ : ∃ t : Nat, v = .int (t : Int) ∧ t ≤ 4 := by
          simp only [List.mem_cons, List.not_mem_nil, or_false] at mv
          rcases mv with rfl | rfl | rfl | rfl | rfl | rfl | rfl
          · exact ⟨1, rfl, by decide⟩
          · exact ⟨1, rfl, by decide⟩
          · exact ⟨1, rfl, by decide⟩
          · exact ⟨2, rfl, by decide⟩
          · exact ⟨2, rfl, by decide⟩
          · exact ⟨3, rfl, by decide⟩
          · exact ⟨4, rfl, by decide⟩
        refine ⟨wd, t4, rfl, ?_⟩
        obtain ⟨sz, hsz, szw⟩ : ∃ sz : Nat, (if (t4 : Int) < wd then (t4 : Int) else wd) = (sz : Int) ∧ sz ≤ wd := by
          by_cases z : (t4 : Int) < wd
          · exact ⟨t4, if_pos z, by omega⟩
          · exact ⟨wd, if_neg z, Nat.le_refl _⟩
        rw [hsz]
        -- what is as it was
        have uu : Upto a H1 H2 := u2
        have hD4 : ∀ o, H1 D = some o → H D = none := fun _ _ => nD |> fun z => z
        have keep4 : ∀ b o, b ≠ a → b ≠ D → H1 b = some o → H4 b = some o := fun b o n1 n2 e => u4 b o n1 ((same_upd nl) _ _ ((upd_ne n2).trans (u2 b o n1 e)))
        have eD4 : H4 D = some (.lst ((ps.eraseIdx j).map V.str)) := u4 D _ aD.symm ((same_upd nl) _ _ upd_same)
        have edc4 : H4 dc = some (.lst (docs8.take wd)) := keep4 dc _ adc.symm Ddc.symm M.edc
        have efo4 : H4 fo = _ := keep4 fo _ afo.symm Dfo.symm M.efo
        have sub4 : Same F1 H4 := fun b o e => keep4 b o (ne_of_none e F1a) (ne_of_none e M.d1) (M.made.sub b o e)
        have up4 : Upto a H H4 := fun b o n1 e => keep4 b o n1 (ne_of_none e nD) (M.made.upto b o n1 e)
        refine ⟨.ref fo, rfl, .inl ⟨rfl, _, SqL.of efo4⟩, .str y, rfl, .ref a, rfl, .ref dc, rfl, .int sz, rfl, a, dc, docs8.take wd, sz, _, rfl, h4, by omega, adc.symm, edc4, by rw [(docs_cut w8).2]; exact szw, by rw [(docs_cut w8).2]; omega, fun H6 t ys u6 h6 nt et sub len => ⟨by show 2 ≤ sizeLine; decide, fun p np => ?_⟩⟩
        have F1t : F1 t = none := sub4.free nt
        have sub6 : Same F1 H6 := same_upto sub4 u6 F1a
        have subT : Same (upd F1 t (.tup ys)) H6 := same_at sub6 et
        have ta : t ≠ a := Hand.ne h4.some nt
        have tD : D ≠ t := ne_of_none eD4 nt
        have tdc : dc ≠ t := ne_of_none edc4 nt
        have tfo : fo ≠ t := ne_of_none efo4 nt
        have eD6 := u6 D _ aD.symm eD4
        have edc6 := u6 dc _ adc.symm edc4
        have efo6 := u6 fo _ afo.symm efo4
        have pD : D ≠ p := ne_of_none eD6 np
        have pdc : dc ≠ p := ne_of_none edc6 np
        have pfo : fo ≠ p := ne_of_none efo6 np
        have pa : p ≠ a := Hand.ne h6.some np
        have subP := same_both (o := .tup [.str y, .ref t]) subT np
        have ht : H t = none := up4.free ta nt
        have up6 : Upto a H H6 := up4.trans u6
        have hp0 : H p = none := up6.free pa np
        have mono : Same F1 (upd (upd F1 t (.tup ys)) p (.tup [.str y, .ref t])) := (same_upd F1t).trans (same_upd (subT.free np))
        refine ⟨fo, _, _, rfl, rfl, (upd_ne pfo).trans efo6, ?_, ?_⟩
        · rw [List.length_map, M.len]
          exact small1000 (by omega)
        · refine ⟨_, _, _, _, rows ++ [(p, .str y, t, ys)], zs ++ [y], ps.eraseIdx j, _, rfl, ⟨⟨?_, ?_, ?_, M.made.mono.trans mono, ?_⟩, ?_, ?_, ?_, ?_, ?_, ?_, ?_, ?_, ?_, ?_, ?_, ?_, taken_nodup M.nd hy, ?_, fun z m => M.inn z (taken_mem hy m)⟩⟩
          · exact (up6.trans (.new np)).put hfo
          · obtain ⟨o, eo⟩ := (h6.new (o := .tup [.str y, .ref t]) np).some
            exact ⟨o, (upd_ne afo).trans eo⟩
          · refine same_put subP ?_
            rw [upd_ne pfo, upd_ne tfo]
            exact M.d3
          · intro b o e nb
            have b1 := M.made.fresh b o e nb
            rw [upd_ne (ne_of_none e hp0), upd_ne (ne_of_none e ht)]
            exact b1
          · exact ((h6.new np).at (upd_ne afo)).mono (by omega)
          · rw [upd_ne pD, upd_ne tD]
            exact M.d1
          · rw [upd_ne pdc, upd_ne tdc]
            exact M.d2
          · rw [upd_ne pfo, upd_ne tfo]
            exact M.d3
          · exact (upd_ne Dfo).trans ((upd_ne pD).trans eD6)
          · exact (upd_ne dcfo).trans ((upd_ne pdc).trans edc6)
          · rw [upd_same, List.map_append]
            rfl
          · rw [List.length_append, M.len]
            rfl
          · intro r m
            rcases List.mem_append.mp m with m | m
            · exact mono _ _ (M.row r m)
            · rw [List.mem_singleton.mp m]
              exact upd_same
          · intro r m
            rcases List.mem_append.mp m with m | m
            · exact mono _ _ (M.doc r m)
            · rw [List.mem_singleton.mp m]
              exact (upd_ne (fun z => by rw [← z, et] at np; cases np)).trans upd_same
          · intro r m
            rcases List.mem_append.mp m with m | m
            · exact M.sub r m
            · rw [List.mem_singleton.mp m]
              exact sub.trans (List.take_sublist _ _)
          · rw [List.map_append, List.map_append, M.nms]
            rfl
          · rw [List.length_eraseIdx, if_pos (by omega)]
            omega
      · rintro σ H1 ⟨y7, y8, y9, y10, rows, zs, ps, F1, rfl, M⟩
        refine ⟨.ref fo, rfl, fo, _, rfl, .inl ⟨SqL.of M.efo, fun t nt => ?_⟩⟩
        have M' := M.made.trans (.new (.tup (rows.map fun r => V.ref r.1)) M.made.sub M.made.live nt)
        have s' : Same F1 (upd F1 t _) := same_upd (o := .tup (rows.map fun r => V.ref r.1)) (M.made.sub.free nt)
        have len := M.len
        rw [Int.toNat_natCast] at len
        refine q _ _ t rows zs M' ((M.hand.new nt).mono (by omega)) ⟨upd_same, fun r m => s' _ _ (M.row r m), fun r m => s' _ _ (M.doc r m), fun r m => ⟨(docs_flat (M.sub r m)).1, ?_⟩, fun r m => (docs_flat (M.sub r m)).2⟩ len M.nms (List.nodup_append.mp M.nd).1 (fun z m => pool_sub N40 (M.inn z (List.mem_append_left _ m))) M.sub
        have : r.2.1 ∈ zs.map V.str := by
          rw [← M.nms]
          exact List.mem_map_of_mem m
        obtain ⟨z, _, e⟩ := List.mem_map.mp this
        rw [← e]
        rfl
end
end Cu

namespace Cu
open PySem PySem.Spec PyProof.Rows L2
/-! ### what is reached, by names -/
/-- names and documents are texts, names differ -/
structure Texts (rows : List Row) (zs : List Str) : Prop where
  nms : rows.map (fun r => r.2.1) = zs.map V.str
  nd : zs.Nodup
  sub : ∀ r ∈ rows, r.2.2.2.Sublist docs8
  inn : ∀ z ∈ zs, z ∈ pool 40
theorem str_inj : Function.Injective V.str := fun a b e => V.str.inj e
theorem inj_of {α β : Type} {f : α → β} : ∀ {l : List α} {a b : α}, (l.map f).Nodup → a ∈ l → b ∈ l → f a = f b → a = b
  | x :: l, a, b, nd, ma, mb, e => by
    rw [List.map_cons] at nd
    have out := (List.nodup_cons.mp nd).1
    have nd' := (List.nodup_cons.mp nd).2
    rcases List.mem_cons.mp ma with e1 | m1
    · rcases List.mem_cons.mp mb with e2 | m2
      · rw [e1, e2]
      · rw [← e1, e] at out
        exact absurd (List.mem_map_of_mem m2) out
    · rcases List.mem_cons.mp mb with e2 | m2
      · rw [← e2, ← e] at out
        exact absurd (List.mem_map_of_mem m1) out
      · exact inj_of nd' m1 m2 e
theorem Texts.nmnd {rows : List Row} {zs : List Str} (h : Texts rows zs) : (rows.map fun r => r.2.1).Nodup := by
  rw [h.nms]
  exact List.pairwise_map.mpr (List.Pairwise.imp (fun ne e => ne (str_inj e)) h.nd)
theorem Texts.rnd {rows : List Row} {zs : List Str} (h : Texts rows zs) : rows.Nodup := List.Pairwise.imp (fun ne e => ne (by rw [e])) (List.pairwise_map.mp h.nmnd)
theorem Texts.one {rows : List Row} {zs : List Str} (h : Texts rows zs) {r r' : Row} (m : r ∈ rows) (m' : r' ∈ rows) (e : r.2.1 = r'.2.1) : r = r' := inj_of h.nmnd m m' e
theorem Texts.str {rows : List Row} {zs : List Str} (h : Texts rows zs) {r : Row} (m : r ∈ rows) : ∃ z ∈ zs, r.2.1 = .str z := by
  have : r.2.1 ∈ zs.map V.str := by
    rw [← h.nms]
    exact List.mem_map_of_mem m
  obtain ⟨z, mz, e⟩ := List.mem_map.mp this
  exact ⟨z, mz, e.symm⟩
theorem Texts.rev {rows : List Row} {zs : List Str} (h : Texts rows zs) : Texts rows.reverse zs.reverse :=
  ⟨by rw [List.map_reverse, List.map_reverse, h.nms], List.pairwise_reverse.mpr (List.Pairwise.imp (fun ne e => ne e.symm) h.nd), fun r m => h.sub r (List.mem_reverse.mp m), fun z m => h.inn z (List.mem_reverse.mp m)⟩
theorem in_str {z : Str} : ∀ {xs : List V}, (∀ v ∈ xs, ∃ s, v = .str s) → (inV (.str z) xs = true ↔ V.str z ∈ xs) := by
  intro xs h
  unfold inV
  rw [List.any_eq_true]
  constructor
  · rintro ⟨v, m, e⟩
    obtain ⟨s, rfl⟩ := h v m
    have : s = z := by simpa [eqV] using e
    rw [← this]
    exact m
  · intro m
    exact ⟨_, m, by simp [eqV]⟩
theorem meets_comm {rows : List Row} {zs : List Str} (h : Texts rows zs) {r r' : Row} (m : r ∈ rows) (m' : r' ∈ rows) : meets r r' = meets r' r := by
  have st : ∀ r ∈ rows, ∀ v ∈ r.2.2.2, ∃ s, v = .str s := by
    intro r m v mv
    have e : ∀ v ∈ docs8, ∃ s, v = .str s := by
      intro v mv
      unfold docs8 at mv
      simp only [List.mem_cons, List.not_mem_nil, or_false] at mv
      rcases mv with rfl | rfl | rfl | rfl | rfl | rfl | rfl | rfl <;> exact ⟨_, rfl⟩
    exact e v ((h.sub r m).subset mv)
  have half : ∀ r r', r ∈ rows → r' ∈ rows → meets r r' = true → meets r' r = true := by
    intro r r' m m' e
    obtain ⟨x, mx, e⟩ := List.any_eq_true.mp e
    obtain ⟨s, rfl⟩ := st r m x mx
    have y := (in_str (st r' m')).mp e
    exact List.any_eq_true.mpr ⟨_, y, (in_str (st r m)).mpr mx⟩
  rw [Bool.eq_iff_iff]
  exact ⟨half r r' m m', half r' r m' m⟩
theorem by_name {rows : List Row} {zs : List Str} (h : Texts rows zs) {r : Row} (m : r ∈ rows) (ns : List Str) : byName (ns.map V.str) r = true ↔ ∃ z ∈ ns, r.2.1 = .str z := by
  obtain ⟨z, _, e⟩ := h.str m
  unfold byName
  rw [e, in_str (fun v mv => by obtain ⟨s, _, rfl⟩ := List.mem_map.mp mv; exact ⟨s, rfl⟩)]
  constructor
  · intro mz
    obtain ⟨s, ms, es⟩ := List.mem_map.mp mz
    exact ⟨s, ms, es.symm⟩
  · rintro ⟨s, ms, es⟩
    rw [es]
    exact List.mem_map_of_mem ms
theorem reach_in {rows : List Row} {zs : List Str} (h : Texts rows zs) (ns : List Str) (o : Str) : inV (.str o) (reachL (ns.map V.str) rows) = true ↔ ∃ r r' : Row, (∃ z ∈ ns, r.2.1 = .str z) ∧ r'.2.1 = .str o ∧ Path meets rows r r' := by
  rw [reach_pick, in_str]
  · constructor
    · intro m
      obtain ⟨r', mr, e⟩ := List.mem_map.mp m
      obtain ⟨r, pr, hp⟩ := (mem_pick _ _ _ _).mp mr
      exact ⟨r, r', (by_name h (path_mem hp).1 ns).mp pr, e, hp⟩
    · rintro ⟨r, r', hr, e, hp⟩
      rw [← e]
      exact List.mem_map_of_mem ((mem_pick _ _ _ _).mpr ⟨r, (by_name h (path_mem hp).1 ns).mpr hr, hp⟩)
  · intro v m
    obtain ⟨r', mr, rfl⟩ := List.mem_map.mp m
    obtain ⟨z, _, e⟩ := h.str ((pick_sub _ _ _).subset mr)
    exact ⟨z, e⟩
theorem path_flip {rows : List Row} {zs : List Str} (h : Texts rows zs) {l : List Row} (sub : ∀ r ∈ l, r ∈ rows) {x y : Row} (p : Path (fun a b => meets b a) l x y) : Path meets l x y := by
  induction p with
  | here l r => exact .here l r
  | next r hp e ih =>
    refine .next r (ih fun r m => sub r (List.mem_append_left _ m)) ?_
    rw [meets_comm h (sub r (List.mem_append_right _ (List.mem_singleton.mpr rfl))) (sub _ (List.mem_append_left _ (path_mem hp).2))]
    exact e
  | keep r hp ih => exact .keep r (ih fun r m => sub r (List.mem_append_left _ m))
/-- above and below say the same -/
theorem up_down {rows : List Row} {zs : List Str} (h : Texts rows zs) (x o : Str) : inV (.str o) (reachL [.str x] rows) = inV (.str x) (downL [.str o] rows) := by
  have e1 := reach_in h [x] o
  have e2 := reach_in h.rev [o] x
  have e3 : inV (.str x) (downL [.str o] rows) = inV (.str x) (reachL [.str o] rows.reverse) := by
    unfold downL inV
    rw [List.any_reverse]
  rw [e3, Bool.eq_iff_iff]
  refine e1.trans (Iff.trans ?_ e2.symm)
  constructor
  · rintro ⟨r, r', ⟨z, mz, er⟩, e, hp⟩
    rw [List.mem_singleton.mp mz] at er
    exact ⟨r', r, ⟨o, List.mem_singleton.mpr rfl, e⟩, er, path_flip h (fun r m => List.mem_reverse.mp m) (path_rev hp)⟩
  · rintro ⟨r, r', ⟨z, mz, er⟩, e, hp⟩
    rw [List.mem_singleton.mp mz] at er
    have := path_rev hp
    rw [List.reverse_reverse] at this
    exact ⟨r', r, ⟨x, List.mem_singleton.mpr rfl, e⟩, er, path_flip h (fun r m => m) this⟩
end Cu

namespace Cu
open PySem PySem.Spec PyProof.Rows L2
section
variable {α : Type}
theorem path_self {t : α → α → Bool} {l : List α} {x : α} (m : x ∈ l) : Path t l x x := by
  obtain ⟨a, b, e⟩ := List.append_of_mem m
  rw [e]
  clear e m
  induction b using snoc_ind with
  | h0 => exact .here a x
  | h1 b r ih =>
    rw [show a ++ x :: (b ++ [r]) = (a ++ x :: b) ++ [r] by simp]
    exact .keep r ih
theorem path_pair {t : α → α → Bool} {x y : α} : ∀ {l : List α}, [x, y].Sublist l → t y x = true → Path t l x y
  | a :: l, s, e => by
    cases s with
    | cons _ s => exact path_cons a (path_pair s e)
    | cons_cons _ s => exact path_first x (path_self (s.subset List.mem_cons_self)) e
theorem fold_front (p : α → Bool) (t : α → α → Bool) : ∀ (l fs : List α), ∃ rest, l.foldl (pick1 p t) fs = fs ++ rest
  | [], fs => ⟨[], by rw [List.append_nil]; rfl⟩
  | r :: l, fs => by
    obtain ⟨rest, e⟩ := fold_front p t l (pick1 p t fs r)
    rw [List.foldl_cons, e]
    unfold pick1
    split
    · exact ⟨r :: rest, by simp⟩
    · exact ⟨rest, rfl⟩
theorem pick_none (p : α → Bool) (t : α → α → Bool) : ∀ (l : List α), (∀ r ∈ l, p r = false) → l.foldl (pick1 p t) [] = []
  | [], _ => rfl
  | r :: l, h => by
    rw [List.foldl_cons]
    have e : pick1 p t [] r = [] := by
      unfold pick1
      rw [h r List.mem_cons_self]
      rfl
    rw [e]
    exact pick_none p t l fun r m => h r (List.mem_cons_of_mem _ m)
end
theorem reach_nd {rows : List Row} {zs : List Str} (h : Texts rows zs) (ns : List V) : (reachL ns rows).Nodup := by
  rw [reach_pick]
  exact h.nmnd.sublist ((pick_sub _ _ _).map _)
theorem reach_strs {rows : List Row} {zs : List Str} (h : Texts rows zs) (ns : List V) : ∀ v ∈ reachL ns rows, ∃ s, v = .str s := by
  intro v m
  obtain ⟨r, mr, rfl⟩ := reach_mem m
  obtain ⟨z, _, e⟩ := h.str mr
  exact ⟨z, e⟩
theorem reach_head {rows : List Row} {zs : List Str} (h : Texts rows zs) {r : Row} (m : r ∈ rows) : ∃ rest, reachL [r.2.1] rows = r.2.1 :: rest := by
  obtain ⟨x, _, ex⟩ := h.str m
  obtain ⟨A, B, e⟩ := List.append_of_mem m
  have nd := h.nmnd
  have no : ∀ r' ∈ A, byName [r.2.1] r' = false := by
    intro r' m'
    have mr' : r' ∈ rows := by
      rw [e]
      exact List.mem_append_left _ m'
    cases hb : byName [r.2.1] r' with
    | false => rfl
    | true =>
      exfalso
      rw [ex] at hb
      obtain ⟨z, mz, ez⟩ := (by_name h mr' [x]).mp hb
      rw [List.mem_singleton.mp mz, ← ex] at ez
      have : r' = r := h.one mr' m ez
      rw [e] at nd
      rw [List.map_append] at nd
      have := (List.nodup_append.mp nd).2.2 r'.2.1 (List.mem_map_of_mem m') r.2.1 (by simp)
      exact this ez
  have yes : byName [r.2.1] r = true := by
    rw [ex]
    exact (by_name h m [x]).mpr ⟨x, List.mem_singleton.mpr rfl, ex⟩
  rw [reach_pick]
  unfold pick
  rw [e, List.foldl_append, pick_none _ _ A no, List.foldl_cons]
  have e1 : pick1 (byName [r.2.1]) meets [] r = [r] := by
    unfold pick1
    rw [yes]
    rfl
  rw [e1]
  obtain ⟨rest, er⟩ := fold_front (byName [r.2.1]) meets B [r]
  rw [er]
  exact ⟨rest.map fun r => r.2.1, rfl⟩
/-- is_below, by the list above -/
theorem below_eq {rows : List Row} {zs : List Str} (h : Texts rows zs) {x : Str} (mx : V.str x ∈ rows.map fun r => r.2.1) (o : Str) : (decide (x ≠ o) && inV (.str o) (reachL [.str x] rows)) = inV (.str o) ((reachL [.str x] rows).drop 1) := by
  obtain ⟨r, m, er⟩ := List.mem_map.mp mx
  obtain ⟨rest, e⟩ := reach_head h m
  rw [er] at e
  have nd := reach_nd h [.str x]
  have st := reach_strs h [.str x]
  rw [e] at nd st ⊢
  have st' : ∀ v ∈ rest, ∃ s, v = .str s := fun v mv => st v (List.mem_cons_of_mem _ mv)
  show _ = inV (.str o) rest
  rw [Bool.eq_iff_iff, Bool.and_eq_true, in_str st, in_str st', decide_eq_true_iff]
  constructor
  · rintro ⟨ne, mo⟩
    rcases List.mem_cons.mp mo with z | z
    · exact absurd (V.str.inj z).symm ne
    · exact z
  · intro mo
    refine ⟨?_, List.mem_cons_of_mem _ mo⟩
    rintro rfl
    exact (List.nodup_cons.mp nd).1 mo
theorem by_same {rows : List Row} {zs : List Str} (h : Texts rows zs) {ns ms : List Str} (e : ∀ z, z ∈ ns ↔ z ∈ ms) : reachL (ns.map V.str) rows = reachL (ms.map V.str) rows := by
  have q : ∀ ns : List Str, ∀ x : V, inV x (ns.map V.str) = true ↔ ∃ z ∈ ns, x = .str z := by
    intro ns x
    unfold inV
    rw [List.any_eq_true]
    constructor
    · rintro ⟨v, m, ev⟩
      obtain ⟨z, mz, rfl⟩ := List.mem_map.mp m
      cases x with
      | str s =>
        have : z = s := by simpa [eqV] using ev
        exact ⟨z, mz, by rw [this]⟩
      | _ => exact absurd ev (by simp [eqV])
    · rintro ⟨z, mz, rfl⟩
      exact ⟨_, List.mem_map_of_mem mz, by simp [eqV]⟩
  have f : byName (ns.map V.str) = byName (ms.map V.str) := by
    funext r
    unfold byName
    rw [Bool.eq_iff_iff, q, q]
    constructor
    · rintro ⟨z, mz, ez⟩
      exact ⟨z, (e z).mp mz, ez⟩
    · rintro ⟨z, mz, ez⟩
      exact ⟨z, (e z).mpr mz, ez⟩
  rw [reach_pick, reach_pick, f]
/-- what is reached from what is reached -/
theorem reach_again {rows : List Row} {zs : List Str} (h : Texts rows zs) (ns : List V) : reachL (reachL ns rows) rows = reachL ns rows := by
  rw [reach_pick (reachL ns rows), reach_pick ns]
  congr 1
  refine pick_again _ _ _ _ h.rnd fun r m => ?_
  obtain ⟨z, _, ez⟩ := h.str m
  unfold byName
  rw [ez, in_str]
  · constructor
    · intro mz
      obtain ⟨r', mr, e⟩ := List.mem_map.mp mz
      have : r' = r := h.one ((pick_sub _ _ _).subset mr) m (by rw [e, ez])
      rw [← this]
      exact mr
    · intro mr
      rw [← ez]
      exact List.mem_map_of_mem mr
  · intro v mv
    obtain ⟨r', mr, rfl⟩ := List.mem_map.mp mv
    obtain ⟨z, _, e⟩ := h.str ((pick_sub _ _ _).subset mr)
    exact ⟨z, e⟩
/-- one by one or together -/
theorem reach_both {rows : List Row} {zs : List Str} (h : Texts rows zs) (ns ms : List Str) (v : V) : v ∈ reachL ((ns ++ ms).map V.str) rows ↔ v ∈ reachL (ns.map V.str) rows ∨ v ∈ reachL (ms.map V.str) rows := by
  have f : byName ((ns ++ ms).map V.str) = fun r => byName (ns.map V.str) r || byName (ms.map V.str) r := by
    funext r
    unfold byName inV
    rw [List.map_append, List.any_append]
  rw [reach_pick, reach_pick, reach_pick, f]
  constructor
  · intro m
    obtain ⟨r, mr, rfl⟩ := List.mem_map.mp m
    rcases (pick_or _ _ _ _ _).mp mr with mr | mr
    · exact .inl (List.mem_map_of_mem mr)
    · exact .inr (List.mem_map_of_mem mr)
  · rintro (m | m)
    · obtain ⟨r, mr, rfl⟩ := List.mem_map.mp m
      exact List.mem_map_of_mem ((pick_or _ _ _ _ _).mpr (.inl mr))
    · obtain ⟨r, mr, rfl⟩ := List.mem_map.mp m
      exact List.mem_map_of_mem ((pick_or _ _ _ _ _).mpr (.inr mr))
end Cu

namespace Cu
open PySem PySem.Spec PyProof.Rows L2
theorem pool_ok {z : Str} (m : z ∈ pool 40) : z.cps.all (fun c => decide (c < 128)) = true := by
  have e : ∀ z ∈ pool 40, z.cps.all (fun c => decide (c < 128)) = true := by decide +kernel
  exact e z m
theorem pool_lay {z : Str} (m : z ∈ pool 40) : (PyData.str z).canLay0 = true := by
  have e : ∀ z ∈ pool 40, (PyData.str z).canLay0 = true := by decide +kernel
  exact e z m
/-- texts of the pool, as data -/
theorem pool_data {K : PySem.W.Frag} : ∀ xs : List V, (∀ v ∈ xs, ∃ z, v = .str z ∧ z ∈ pool 40) → ∃ ds : List PyData, (∀ H, DpAll K H xs ds) ∧ (PyData.tuple ds).canLay0 = true ∧ (PyData.tuple ds).depth ≤ 1
  | [], _ => ⟨[], fun _ => .nil, rfl, by decide⟩
  | x :: xs, h => by
    obtain ⟨ds, h1, h2, h3⟩ := pool_data xs fun v m => h v (List.mem_cons_of_mem _ m)
    obtain ⟨z, rfl, mz⟩ := h x List.mem_cons_self
    refine ⟨.str z :: ds, fun H => .cons (.str z) (h1 H), ?_, ?_⟩
    · have l := pool_lay mz
      simp only [PyData.canLay0, PyData.canLayAll0] at l h2 ⊢
      rw [l, h2]
      rfl
    · simp only [PyData.depth, PyData.depthAll] at h3 ⊢
      omega
/-- two tuples of the same names are the same -/
theorem ne_same {K : PySem.W.Frag} {H : Hp} {a b : Addr} {xs : List V} {Q : VK} (h : ∀ v ∈ xs, ∃ z, v = .str z ∧ z ∈ pool 40) (e1 : H a = some (.tup xs)) (e2 : H b = some (.tup xs)) (q : Q (.bl false) H) : rNeD K (.ref a) (.ref b) H Q := by
  obtain ⟨ds, h1, h2, h3⟩ := pool_data (K := K) xs h
  have sh : SeqAt.shaped (.tuple ds) = true := by
    unfold SeqAt.shaped
    rw [h2, decide_eq_true (by omega)]
    rfl
  refine ⟨.tuple ds, .tuple ds, .tup (SqT.of e1) (h1 H), .tup (SqT.of e2) (h1 H), sh, sh, ?_⟩
  rw [SeqAt.eqv_refl _ h2]
  exact q
theorem Texts.pool {rows : List Row} {zs : List Str} (h : Texts rows zs) (ns : List V) : ∀ v ∈ reachL ns rows, ∃ z, v = .str z ∧ z ∈ Cu.pool 40 := by
  intro v m
  obtain ⟨r, mr, rfl⟩ := reach_mem m
  obtain ⟨z, mz, e⟩ := h.str mr
  exact ⟨z, e, h.inn z mz⟩
/-- up or down of one name -/
theorem one_up {tb t : Addr} {G H : Hp} {rows : List Row} {x : Str} {g : List V → List Row → List V} {Q : VK} {E : XK} (s : Same G H) (gt : G tb = none) (tab : GxR.TabG H tb) (hp : HeapIn G t rows) (rl : rows.length ≤ 100)
    (q : ∀ H' l, Tbk tb H H' → l ≠ tb → H' l = some (.tup (g [.str x] rows)) → Q (.ref l) H') : [V.str x].length ≤ sizeLine ∧ ∀ p, H p = none → spUp tb g [.ref t, .ref p] (upd H p (.tup [.str x])) Q E := by
  refine ⟨by show 1 ≤ sizeLine; decide, fun p np => ?_⟩
  have pt := tab_ne tab np
  have s1 : Same G (upd G p (.tup [.str x])) := same_upd (s.free np)
  have k1 : Tbk tb H _ := .new (o := .tup [.str x]) tab np
  refine ⟨_, t, p, rows, [.str x], rfl, same_both s np, (upd_ne pt.symm).trans gt, k1.tab, hp.more s1, upd_same, rfl, rl, fun H1 l k nl el => ?_⟩
  exact q H1 l (k1.trans k) (tab_ne k1.tab nl) el
end Cu

namespace Cu
open PySem PySem.Spec PyProof.Rows L2
theorem cut_all {xs : List V} {lo hi : Option Int} (h : HT.sIx xs.length 0 lo = 0 ∧ HT.sIx xs.length xs.length hi = xs.length) : cutV xs lo hi = xs := by
  unfold cutV
  rw [h.1, h.2, List.drop_zero, Nat.sub_zero, List.take_length]
theorem cut_from {K : PySem.W.Frag} {tb l : Addr} {σ : L2.St} {H : Hp} {xs : List V} {lo : Int} {Q : VK} (tab : GxR.TabG H tb) (e : H l = some (.tup xs))
    (q : ∀ H' v, Tbk tb H H' → H' v = some (.tup (cutV xs (some lo) none)) → Q (.ref v) H') : tNoPart σ H fun u H3 => rSlA K (.ref l) (some lo) u H3 Q := by
  refine ⟨l, xs, rfl, SqT.of e, fun hw => ?_, fun _ p n => ?_⟩
  · exact q H l (.refl tab) (by rw [cut_all hw]; exact e)
  · exact q _ p (.new tab n) upd_same
/-! ### two tables -/
structure Tb2 (tb t2 : Addr) (H H' : Hp) : Prop where
  keep : ∀ b o, b ≠ tb → b ≠ t2 → H b = some o → H' b = some o
  tab : GxR.TabG H' tb
  tab2 : GxR.TabG H' t2
theorem Tb2.refl {tb t2 : Addr} {H : Hp} (a : GxR.TabG H tb) (b : GxR.TabG H t2) : Tb2 tb t2 H H := ⟨fun _ _ _ _ e => e, a, b⟩
theorem Tb2.trans {tb t2 : Addr} {H H1 H2 : Hp} (x : Tb2 tb t2 H H1) (y : Tb2 tb t2 H1 H2) : Tb2 tb t2 H H2 := ⟨fun b o n m e => y.keep b o n m (x.keep b o n m e), y.tab, y.tab2⟩
theorem Tb2.new {tb t2 p : Addr} {H : Hp} {o : HO} (a : GxR.TabG H tb) (b : GxR.TabG H t2) (n : H p = none) : Tb2 tb t2 H (upd H p o) := ⟨fun c x _ _ e => same_upd n c x e, tab_new a n, tab_new b n⟩
theorem Tb2.one {tb t2 : Addr} {H H' : Hp} (ne : t2 ≠ tb) (k : Tbk tb H H') (b : GxR.TabG H t2) : Tb2 tb t2 H H' := by
  obtain ⟨ps, e, z⟩ := b
  exact ⟨fun c o n _ eo => k.keep c o n eo, k.tab, ⟨ps, k.keep _ _ ne e, z⟩⟩
theorem Tb2.two {tb t2 : Addr} {H H' : Hp} (ne : t2 ≠ tb) (k : GxR.Tabbed t2 H H') (a : GxR.TabG H tb) : Tb2 tb t2 H H' := by
  obtain ⟨ps, e, z⟩ := a
  exact ⟨fun c o _ n eo => (k.2 c n).trans eo, ⟨ps, (k.2 _ ne.symm).trans e, z⟩, k.1⟩
theorem Tb2.same {tb t2 : Addr} {F H H1 : Hp} (a : Tb2 tb t2 H H1) (s : Same F H) (f1 : F tb = none) (f2 : F t2 = none) : Same F H1 := fun b o e => a.keep b o (ne_of_none e f1) (ne_of_none e f2) (s b o e)
theorem Tb2.put {tb t2 p : Addr} {H H1 : Hp} {o : HO} (a : Tb2 tb t2 H H1) (n : H p = none) (n1 : p ≠ tb) (n2 : p ≠ t2) : Tb2 tb t2 H (upd H1 p o) := ⟨fun b x nb mb e => (upd_ne (ne_of_none e n)).trans (a.keep b x nb mb e), tab_put a.tab n1, tab_put a.tab2 n2⟩
theorem Tb2.free {tb t2 p : Addr} {H H1 : Hp} (a : Tb2 tb t2 H H1) (n : H1 p = none) : H p = none := by
  cases h : H p with
  | none => rfl
  | some o =>
    rw [a.keep p o (tab_ne a.tab n) (tab_ne a.tab2 n) h] at n
    cases n
def listL (rows : List Row) (d : V) : List V := (rows.filter fun r => inV d r.2.2.2).map fun r => r.2.1
theorem reps (n : Nat) (b : Bool) : (List.replicate n b).map V.bl = List.replicate n (V.bl b) := List.map_replicate
theorem all_reps (n : Nat) : (List.replicate n true).all id = true := by
  rw [List.all_eq_true]
  intro x m
  rw [List.eq_of_mem_replicate m]
  rfl
theorem cut_drop (xs : List V) (i : Nat) : cutV xs (some ((i : Int) + 1)) none = xs.drop (i + 1) := by
  have e2 : HT.sIx xs.length xs.length none = xs.length := rfl
  by_cases h : i + 1 ≤ xs.length
  · have e1 : HT.sIx xs.length 0 (some ((i : Int) + 1)) = i + 1 := by
      show (if (i : Int) + 1 < 0 then ((i : Int) + 1 + xs.length).toNat else min ((i : Int) + 1).toNat xs.length) = i + 1
      rw [if_neg (by omega)]
      omega
    unfold cutV
    rw [e1, e2, List.take_of_length_le (by rw [List.length_drop]; omega)]
  · have e1 : HT.sIx xs.length 0 (some ((i : Int) + 1)) = xs.length := by
      show (if (i : Int) + 1 < 0 then ((i : Int) + 1 + xs.length).toNat else min ((i : Int) + 1).toNat xs.length) = xs.length
      rw [if_neg (by omega)]
      omega
    unfold cutV
    rw [e1, e2, List.drop_of_length_le (by omega), List.drop_of_length_le (by omega), List.take_nil]
def txts (l : List V) : List Str := l.filterMap fun v => match v with | .str s => some s | _ => none
theorem txts_map : ∀ {l : List V}, (∀ v ∈ l, ∃ s, v = .str s) → l = (txts l).map V.str
  | [], _ => rfl
  | v :: l, h => by
    obtain ⟨s, rfl⟩ := h v List.mem_cons_self
    have ih := txts_map fun u m => h u (List.mem_cons_of_mem _ m)
    show V.str s :: l = V.str s :: (txts l).map V.str
    rw [← ih]
theorem mem_map_str {z : Str} {l : List Str} : V.str z ∈ l.map V.str ↔ z ∈ l :=
  ⟨fun m => by
    obtain ⟨s, ms, e⟩ := List.mem_map.mp m
    rw [← V.str.inj e]
    exact ms, fun m => List.mem_map_of_mem m⟩
theorem same_in {G H : Hp} {p : Addr} {o : HO} (s : Same G H) (e : H p = some o) : Same G (upd G p o) := fun b x eb => by
  by_cases z : b = p
  · subst z
    rw [s _ _ eb] at e
    cases e
    exact upd_same
  · rw [upd_ne z]
    exact eb
theorem flat_strs (xs : List Str) : (xs.map V.str).all flatV = true := by
  rw [List.all_eq_true]
  intro v m
  obtain ⟨s, _, rfl⟩ := List.mem_map.mp m
  rfl
/-! ### what stands beside the hand -/
theorem Tb2.upto {tb t2 p : Addr} {H H1 H2 : Hp} (k : Tb2 tb t2 H H1) (u : Upto p H1 H2) (hp : H p = none) (n1 : tb ≠ p) (n2 : t2 ≠ p) : Tb2 tb t2 H H2 := by
  obtain ⟨ps, e, z⟩ := k.tab
  obtain ⟨ps2, e2, z2⟩ := k.tab2
  exact ⟨fun b o a c eb => u b o (ne_of_none eb hp) (k.keep b o a c eb), ⟨ps, u _ _ n1 e, z⟩, ⟨ps2, u _ _ n2 e2, z2⟩⟩
theorem Tb2.sm {tb t2 : Addr} {H H1 H2 : Hp} (k : Tb2 tb t2 H H1) (s : Same H1 H2) : Tb2 tb t2 H H2 := by
  obtain ⟨ps, e, z⟩ := k.tab
  obtain ⟨ps2, e2, z2⟩ := k.tab2
  exact ⟨fun b o a c eb => s b o (k.keep b o a c eb), ⟨ps, s _ _ e, z⟩, ⟨ps2, s _ _ e2, z2⟩⟩
theorem hand_ne {H : Hp} {p tb : Addr} {n : Nat} (h : Hand H p n) (t : GxR.TabG H tb) : tb ≠ p := by
  rintro rfl
  obtain ⟨ps, e, _⟩ := t
  obtain ⟨g, x, c, e', _⟩ := h
  rw [e] at e'
  cases e'
theorem hand_to {H H' : Hp} {p : Addr} {n : Nat} (h : Hand H p n) (k : ∀ o, H p = some o → H' p = some o) : Hand H' p n := by
  obtain ⟨g, x, c, e, r⟩ := h
  exact ⟨g, x, c, k _ e, r⟩
/-- the heap without tables and hand -/
def hid (H : Hp) (tb t2 p : Addr) : Hp := fun b => if b = tb ∨ b = t2 ∨ b = p then none else H b
theorem hid_same (H : Hp) (tb t2 p : Addr) : Same (hid H tb t2 p) H := fun b o e => by
  unfold hid at e
  split at e
  · cases e
  · exact e
theorem hid1 (H : Hp) (tb t2 p : Addr) : hid H tb t2 p tb = none := if_pos (.inl rfl)
theorem hid2 (H : Hp) (tb t2 p : Addr) : hid H tb t2 p t2 = none := if_pos (.inr (.inl rfl))
theorem hid3 (H : Hp) (tb t2 p : Addr) : hid H tb t2 p p = none := if_pos (.inr (.inr rfl))
/-- the script stays -/
theorem seq_keep {K : PySem.W.Frag} {tb t2 a : Addr} {H H1 : Hp} {xs : List V} (k : Tb2 tb t2 H H1) (t1 : GxR.TabG H tb) (t2' : GxR.TabG H t2) (h : SqL K H a xs) : SqL K H1 a xs := by
  have no : ∀ {c : Addr} {o : HO}, GxR.TabG H c → H a = some o → (∀ ps, o ≠ .tbl ps) → a ≠ c := by
    rintro c o ⟨ps, e, _⟩ eo ne rfl
    rw [e] at eo
    exact ne ps (Option.some.inj eo).symm
  rcases h with (h | ⟨o, h⟩) | h
  · exact .inl (.inl (k.keep _ _ (no t1 h (fun _ z => nomatch z)) (no t2' h (fun _ z => nomatch z)) h))
  · exact .inl (.inr ⟨o, k.keep _ _ (no t1 h (fun _ z => nomatch z)) (no t2' h (fun _ z => nomatch z)) h⟩)
  · exact .inr h
end Cu

namespace Cu
open PySem PySem.Spec PyProof.Rows L2
/-! ### paths, from one action to the next -/
section
variable {α : Type}
theorem path_more {t : α → α → Bool} {l : List α} {x y : α} (h : Path t l x y) (m : List α) : Path t (l ++ m) x y := by
  induction m using snoc_ind with
  | h0 => rw [List.append_nil]; exact h
  | h1 m r ih =>
    rw [← List.append_assoc]
    exact .keep r ih
theorem path_less {t : α → α → Bool} {l : List α} {x y : α} (my : y ∈ l) : ∀ {m : List α}, (l ++ m).Nodup → Path t (l ++ m) x y → Path t l x y := by
  intro m
  induction m using snoc_ind with
  | h0 =>
    intro _ h
    rw [List.append_nil] at h
    exact h
  | h1 m r ih =>
    intro nd h
    rw [← List.append_assoc] at nd h
    have out : y ≠ r := by
      rintro rfl
      exact (List.nodup_append.mp nd).2.2 y (List.mem_append_left _ my) y (List.mem_singleton.mpr rfl) rfl
    rcases path_snoc h with ⟨_, z⟩ | ⟨z, _⟩ | z
    · exact absurd z out
    · exact absurd z out
    · exact ih (List.nodup_append.mp nd).1 z
theorem path_step {t : α → α → Bool} {l m : List α} {r x : α} (nd : (l ++ r :: m).Nodup) (ne : x ≠ r) : Path t (l ++ r :: m) x r ↔ ∃ w ∈ l, t r w = true ∧ Path t (l ++ r :: m) x w := by
  have e : l ++ r :: m = (l ++ [r]) ++ m := by simp
  have out : r ∉ l := fun z => (List.nodup_append.mp nd).2.2 r z r List.mem_cons_self rfl
  constructor
  · intro h
    rw [e] at nd h
    rcases path_snoc (path_less (by simp) nd h) with ⟨z, _⟩ | ⟨_, w, hw, tw⟩ | z
    · exact absurd z ne
    · refine ⟨w, (path_mem hw).2, tw, ?_⟩
      rw [e]
      exact path_more (path_more hw [r]) m
    · exact absurd (path_mem z).2 out
  · rintro ⟨w, mw, tw, h⟩
    have hl := path_less mw nd h
    rw [e]
    exact path_more (.next r hl tw) m
end
theorem nodup_len {α : Type} [BEq α] [LawfulBEq α] : ∀ {l m : List α}, l.Nodup → (∀ x ∈ l, x ∈ m) → l.length ≤ m.length
  | [], _, _, _ => Nat.zero_le _
  | x :: l, m, nd, h => by
    have mx := h x List.mem_cons_self
    have ih := nodup_len (l := l) (m := m.erase x) (List.nodup_cons.mp nd).2 fun y my => (List.mem_erase_of_ne (fun z => (List.nodup_cons.mp nd).1 (by rw [← z]; exact my))).mpr (h y (List.mem_cons_of_mem _ my))
    rw [List.length_erase_of_mem mx] at ih
    have := List.length_pos_of_mem mx
    show l.length + 1 ≤ m.length
    omega
/-- o: the names strictly below r -/
structure Below (rows : List Row) (r : Row) (o : List Str) : Prop where
  nd : o.Nodup
  mem : ∀ z, z ∈ o ↔ ∃ x ∈ rows, x.2.1 = .str z ∧ x ≠ r ∧ Path meets rows x r
theorem Below.inn {rows : List Row} {zs : List Str} {r : Row} {o : List Str} (h : Below rows r o) (tx : Texts rows zs) {z : Str} (m : z ∈ o) : z ∈ zs := by
  obtain ⟨x, mx, ex, _⟩ := (h.mem z).mp m
  obtain ⟨s, ms, es⟩ := tx.str mx
  rw [V.str.inj (ex.symm.trans es)]
  exact ms
abbrev Ent := Str × Addr × List Str
def entK (e : Ent) : Key × V := (Sum.inr e.1, V.ref e.2.1)
theorem ent_get : ∀ {es : List Ent} {z : Str} {j : Nat} {e : Ent}, (es.map fun e => e.1).Nodup → es[j]? = some e → e.1 = z → valV (es.map entK) (Sum.inr z) = some (V.ref e.2.1)
  | x :: es, z, 0, e, _, h, hz => by
    cases h
    exact valV_pos (p := entK _) (by show Sum.inr _ = Sum.inr _; rw [hz])
  | x :: es, z, j + 1, e, nd, h, hz => by
    have nd' := List.nodup_cons.mp nd
    have ne : x.1 ≠ z := by
      rintro rfl
      exact nd'.1 (List.mem_map.mpr ⟨e, List.mem_of_getElem? h, hz⟩)
    rw [List.map_cons, valV_neg (p := entK x) (by intro c; exact ne (Sum.inr.inj c))]
    exact ent_get nd'.2 h hz
theorem ent_put {es : List Ent} {z : Str} {v : V} (h : z ∉ es.map fun e => e.1) : putK (es.map entK) (Sum.inr z) v = es.map entK ++ [(Sum.inr z, v)] := by
  unfold putK
  rw [if_neg]
  intro c
  obtain ⟨kv, m, e⟩ := List.any_eq_true.mp c
  obtain ⟨x, mx, rfl⟩ := List.mem_map.mp m
  exact h (List.mem_map.mpr ⟨x, mx, Sum.inr.inj (of_decide_eq_true e)⟩)
theorem cut_take (xs : List V) (i : Nat) : cutV xs none (some (i : Int)) = xs.take i := by
  have e1 : HT.sIx xs.length 0 none = 0 := rfl
  have e2 : HT.sIx xs.length xs.length (some (i : Int)) = min i xs.length := by
    show (if (i : Int) < 0 then ((i : Int) + xs.length).toNat else min (i : Int).toNat xs.length) = _
    rw [if_neg (by omega), Int.toNat_natCast]
  unfold cutV
  rw [e1, e2, List.drop_zero, Nat.sub_zero]
  by_cases h : i ≤ xs.length
  · rw [Nat.min_eq_left h]
  · rw [Nat.min_eq_right (by omega), List.take_length, List.take_of_length_le (by omega)]
theorem cut_to {K : PySem.W.Frag} {l : Addr} {H : Hp} {xs : List V} {i : Nat} {Q : VK} (e : H l = some (.tup xs))
    (q : ∀ H' v, Same H H' → H' v = some (.tup (xs.take i)) → Q (.ref v) H') : rSlA K (.ref l) none (some (i : Int)) H Q := by
  refine ⟨l, xs, rfl, SqT.of e, fun hw => ?_, fun _ p n => ?_⟩
  · refine q H l (Same.refl _) ?_
    rw [← cut_take, cut_all hw]
    exact e
  · refine q _ p (same_upd n) ?_
    rw [← cut_take]
    exact upd_same
abbrev sOr : Stmt := topS 13
abbrev nOr : List Str := ["_law_heap_here", "_law_found", "_law_at", "_law_action", "_law_below", "_law_other", "_law_shared", "_law_document"]
theorem scOr : FnScope nOr ["_law_heap_here"] (defScope sOr) := ⟨rfl, rfl, rfl, by decide +kernel, rfl, by decide +kernel, by decide +kernel⟩
/-- the order so far: one entry for each of the first i -/
structure OrdTo (H1 : Hp) (d : Addr) (rows : List Row) (zs : List Str) (i : Nat) (es : List Ent) : Prop where
  at_ : H1 d = some (.dK (es.map entK))
  nms : es.map (fun e => e.1) = zs.take i
  lst : ∀ e ∈ es, H1 e.2.1 = some (.lst (e.2.2.map V.str))
  bel : ∀ (j : Nat) (e : Ent) (r : Row), es[j]? = some e → rows[j]? = some r → Below rows r e.2.2
theorem OrdTo.keep {H1 H2 : Hp} {d : Addr} {rows : List Row} {zs : List Str} {i : Nat} {es : List Ent} (o : OrdTo H1 d rows zs i es) (s : Same H1 H2) : OrdTo H2 d rows zs i es :=
  ⟨s _ _ o.at_, o.nms, fun e m => s _ _ (o.lst e m), o.bel⟩
section
variable {P : Program} {w : World} {K : PySem.W.Frag} {mg : Str → Option Value} {base : Heap}
def spOr : Sp := fun vs H Q _ => ∃ (F : Hp) (t : Addr) (rows : List Row) (zs : List Str), vs = [.ref t] ∧ Same F H ∧ HeapIn F t rows ∧ rows.length ≤ 40 ∧ Texts rows zs ∧
  ∀ H' d es, Same H H' → OrdTo H' d rows zs rows.length es → H d = none → (∀ e ∈ es, H e.2.1 = none) → Q (.ref d) H'
theorem ok_order {f : Addr} {fd : FuncData} {k : Nat} (F : Fun K "_law_order" "_law_order" sOr f fd) (T : Bl mg) : FnOk P w K mg base CX0 (k + 1) f fd ["_law_heap_here"] spOr := by
  refine F.ok scOr (fun vs H Q E h => ?_) (fun cdv A outer s H vs Q E hr h => ?_)
  · obtain ⟨G, t, rows, zs, rfl, _⟩ := h
    rfl
  · obtain ⟨G, t, rows, zs, rfl, sG, hp, rl, tx, q⟩ := h
    have hu := hu_of hr
    refine ⟨_, (pss_cons (ps_set (i := 1) scOr.nd rfl (.inl rfl) pe_dnewK)
  (pss_cons (ps_for PassesOwn.never rfl (pi_enumT (by rfl) T.enumerate (pa_cons (pv 0) pa_nil)) (pg_tup rfl (pgs_cons (pg_name (i := 2) scOr.nd rfl (.inl rfl)) (pgs_cons (pg_name (i := 3) scOr.nd rfl (.inl rfl)) pgs_nil)))
  (pss_cons (ps_set (i := 4) scOr.nd rfl (.inl rfl) (pe_lst pa_nil))
  (pss_cons (ps_for PassesOwn.never rfl (pi_tup (pe_slice sl_tupA (pv 0) po_none (po_some (pv 2)))) (pg_tup rfl (pgs_cons (pg_name (i := 5) scOr.nd rfl (.inl rfl)) (pgs_cons (pg_name (i := 6) scOr.nd rfl (.inr rfl)) pgs_nil)))
  (pss_one (ps_if (pt_val (pe_callB (cr_any rfl) (by rfl) T.any (by decide +kernel) (pa_cons (pe_lc (own := [("_law_document", 7)]) (g := gName 7) (tt := tYes) rfl scOr.nd (pi_tup (pe_ix ix_tup (pv 3) pe_int (fun _ _ => rfl))) (blkOk_by (own := [("_law_document", 7)]) (N := nOr) (sc := defScope sOr) (by decide +kernel)) (fun _ _ _ _ _ => (pg_name (i := 7) scOr.nd rfl (.inl rfl))) (fun _ _ _ _ _ => pts_nil) (fun _ _ _ _ _ => (pe_cmpR (show OpR _ (compareOp .In) (rIn K false) from op_in_seq) (pv 7) (pv 6) (by rfl)))) pa_nil)))
  (pss_one (ps_set (i := 4) scOr.nd rfl (.inl rfl) (pe_op op_cat (pe_op op_cat (pv 4) (pe_lst (pa_cons (pv 5) pa_nil))) (pe_dget hu (pv 1) (pv 5) (fun _ _ => rfl)))))
  pss_nil)))
  (pss_one (ps_dput hu (pv 1) (pe_ix ix_tup (pv 3) pe_int (fun _ _ => rfl)) (pe_callB (call_sortX rfl) (by rfl) T.sorted (by decide +kernel) (pa_cons (pe_callTy (call_setX rfl) (by rfl) T.set (by decide +kernel) (pa_cons (pv 4) pa_nil)) pa_nil)) rfl)))))
  (pss_one (ps_ret (pv 1))))), ?_⟩
    refine fun d nd => ?_
    have zl : zs.length = rows.length := by
      have := congrArg List.length tx.nms
      rw [List.length_map, List.length_map] at this
      exact this.symm
    have dG : ∀ b o, G b = some o → b ≠ d := fun b o e => ne_of_none (sG _ _ e) nd
    refine ⟨.ref t, rfl, t, _, rfl, SqT.of ((sG.trans (same_upd nd)) _ _ hp.at_), ?_⟩
    refine for_it (walk_enumT (K := K) (a := t) (xs := rows.map fun r => V.ref r.1)) (fun i σ H1 => ∃ y2 y3 y4 y5 y6 y7 es, σ = [some (.ref t), some (.ref d), y2, y3, y4, y5, y6, y7] ∧ Same H H1 ∧ OrdTo H1 d rows zs i es ∧ ∀ e ∈ es, H e.2.1 = none) ?_ ?_ ?_ ?_
    · exact ⟨_, _, _, _, _, _, [], rfl, same_upd nd, ⟨upd_same, rfl, (fun _ m => nomatch m), fun j e r h => by cases h⟩, (fun _ m => nomatch m)⟩
    · rintro i σ H1 _ ⟨_, _, _, _, _, _, _, _, s1, _, _⟩
      exact SqT.of ((sG.trans s1) _ _ hp.at_)
    · rintro i v σ H1 H2 lt ⟨y2, y3, y4, y5, y6, y7, es, rfl, s1, od, fre⟩ ⟨tt, a1, b1, rfl, ntt, rfl, ea, eb⟩
      cases ea
      have eb : (rows.map fun r => V.ref r.1)[i]? = some b1 := eb
      rw [List.getElem?_map] at eb
      obtain ⟨r, hr1, rfl⟩ := Option.map_eq_some_iff.mp eb
      rw [List.length_map] at lt
      have mr := List.mem_of_getElem? hr1
      have s2 : Same H _ := s1.trans (same_upd (o := .tup [V.int (i : Nat), .ref r.1]) ntt)
      have od2 := od.keep (same_upd (o := .tup [V.int (i : Nat), .ref r.1]) ntt)
      refine ⟨tt, _, rfl, SqT.of upd_same, rfl, _, _, rfl, _, _, rfl, rfl, ?_⟩
      generalize upd H1 tt (.tup [V.int (i : Nat), .ref r.1]) = H2 at s2 od2 ⊢
      have el : es.length = i := by
        have := congrArg List.length od2.nms
        rw [List.length_map, List.length_take] at this
        omega
      have znd := tx.nd
      have end_ : (es.map fun e => e.1).Nodup := by
        rw [od2.nms]
        exact znd.sublist (List.take_sublist _ _)
      have elen : ∀ e ∈ es, e.2.2.length ≤ 40 := by
        intro e me
        obtain ⟨j, hj⟩ := List.getElem?_of_mem me
        have jl : j < rows.length := by
          have := (List.getElem?_eq_some_iff.mp hj).1
          omega
        have b := od2.bel j e rows[j] hj (List.getElem?_eq_getElem jl)
        have := nodup_len b.nd fun z m => b.inn tx m
        omega
      refine ⟨by show 0 ≤ sizeLine; decide, fun bl nbl => ?_⟩
      have s3 : Same H _ := s2.trans (same_upd (o := .lst []) nbl)
      have od3 := od2.keep (same_upd (o := .lst []) nbl)
      have e3 : (upd H2 bl (.lst [])) bl = some (.lst []) := upd_same
      generalize upd H2 bl (.lst []) = H3 at s3 od3 e3 ⊢
      refine ⟨.ref t, rfl, .int (i : Nat), rfl, (i : Int), rfl, cut_to ((sG.trans s3) _ _ hp.at_) fun H4 sl s34 e4 => ?_⟩
      have s4 := s3.trans s34
      have od4 := od3.keep s34
      have eb4 := s34 _ _ e3
      rw [← List.map_take] at e4
      refine ⟨sl, rfl, ⟨_, SqT.of e4⟩, ?_⟩
      refine for_tup (K := K) (a := sl) (xs := (rows.take i).map fun r => V.ref r.1) (fun m σ H5 => ∃ (y5 y6 y7 : Option V) (bl : Addr) (bs : List Str), σ = [some (.ref t), some (.ref d), some (.int (i : Nat)), some (.ref r.1), some (.ref bl), y5, y6, y7] ∧ Same H4 H5 ∧ H5 bl = some (.lst (bs.map V.str)) ∧ bs.length ≤ 41 * m ∧
        (∀ z, z ∈ bs ↔ ∃ w ∈ rows.take m, meets r w = true ∧ ∃ x ∈ rows, x.2.1 = .str z ∧ Path meets rows x w)) ?_ ?_ ?_ ?_
      · exact ⟨_, _, _, bl, [], rfl, Same.refl _, eb4, Nat.zero_le _, fun z => by simp⟩
      · rintro m σ H5 _ ⟨_, _, _, _, _, _, s5, _⟩
        exact SqT.of (s5 _ _ e4)
      · rintro m x σ H5 hx ⟨x5, x6, x7, bl5, bs, rfl, s5, e5, l5, m5⟩
        rw [List.getElem?_map] at hx
        obtain ⟨r', hr', rfl⟩ := Option.map_eq_some_iff.mp hx
        have mi : m < i := by
          have := (List.getElem?_eq_some_iff.mp hr').1
          rw [List.length_take] at this
          omega
        have hr2 : rows[m]? = some r' := by
          rw [List.getElem?_take, if_pos mi] at hr'
          exact hr'
        have mr' := List.mem_of_getElem? hr2
        have g5 := sG.trans (s4.trans s5)
        refine ⟨r'.1, _, rfl, SqT.of (g5 _ _ (hp.row r' mr')), rfl, _, _, rfl, _, _, rfl, rfl, ?_⟩
        -- does it meet?
        refine ⟨.ref r.1, rfl, r.1, _, 1, .ref r.2.2.1, rfl, rfl, SqT.of (g5 _ _ (hp.row r mr)), rfl, r.2.2.1, rfl, ⟨_, SqT.of (g5 _ _ (hp.doc r mr))⟩, fun D nD => ?_⟩
        have dD : r.2.2.1 ≠ D := ne_of_none (g5 _ _ (hp.doc r mr)) nD
        have dD' : r'.2.2.1 ≠ D := ne_of_none (g5 _ _ (hp.doc r' mr')) nD
        refine lc_tup (K := K) (a := r.2.2.1) (xs := r.2.2.2) (fun j H6 => H6 = upd H5 D (.lst (((r.2.2.2.take j).map fun x => inV x r'.2.2.2).map V.bl))) rfl ?_ ?_ ?_
        · rintro j H6 _ rfl
          exact SqT.of ((upd_ne dD).trans (g5 _ _ (hp.doc r mr)))
        · rintro j u H6 hu2 rfl
          have fu : flatV u = true := List.all_eq_true.mp (hp.flat r mr).1 u (List.mem_of_getElem? hu2)
          refine ⟨rfl, lc_yes ⟨u, rfl, .ref r'.2.2.1, rfl, r'.2.2.1, _, rfl, .inr (SqT.of ((upd_ne dD').trans (g5 _ _ (hp.doc r' mr')))), fu, (hp.flat r' mr').1, ?_⟩⟩
          refine ⟨_, upd_same, ?_, ?_⟩
          · rw [List.length_map, List.length_map, List.length_take]
            have := hp.few r mr
            exact small1000 (by omega)
          · rw [upd_upd, List.take_add_one, hu2, List.map_append, List.map_append]
            rfl
        · rintro H6 rfl
          rw [List.take_length]
          refine ⟨D, _, rfl, SqL.of upd_same, _, rfl, ?_⟩
          have ev : ((r.2.2.2.map fun x => inV x r'.2.2.2).any id) = meets r r' := by
            unfold meets
            rw [List.any_map]
            rfl
          have s6 : Same H4 _ := s5.trans (same_upd (o := .lst ((r.2.2.2.map fun x => inV x r'.2.2.2).map V.bl)) nD)
          have e6 := same_upd (o := .lst ((r.2.2.2.map fun x => inV x r'.2.2.2).map V.bl)) nD _ _ e5
          rw [ev]
          generalize upd H5 D (.lst ((r.2.2.2.map fun x => inV x r'.2.2.2).map V.bl)) = H6 at s6 e6 ⊢
          have tk : rows.take (m + 1) = rows.take m ++ [r'] := by
            rw [List.take_add_one, hr2]
            rfl
          cases hm : meets r r' with
          | false =>
            refine iffF rfl ?_
            refine ⟨_, _, _, bl5, bs, rfl, s6, e6, by omega, fun z => ?_⟩
            rw [m5 z, tk]
            constructor
            · rintro ⟨w, mw, h⟩
              exact ⟨w, List.mem_append_left _ mw, h⟩
            · rintro ⟨w, mw, hw, h⟩
              rcases List.mem_append.mp mw with mw | mw
              · exact ⟨w, mw, hw, h⟩
              · rw [List.mem_singleton.mp mw, hm] at hw
                cases hw
          | true =>
            refine iffT rfl ?_
            obtain ⟨z', mz', ez'⟩ := tx.str mr'
            obtain ⟨e, he⟩ : ∃ e, es[m]? = some e := ⟨es[m]'(by omega), List.getElem?_eq_getElem (by omega)⟩
            have me := List.mem_of_getElem? he
            have ename : e.1 = z' := by
              have h1 : (es.map fun e => e.1)[m]? = some e.1 := by rw [List.getElem?_map, he]; rfl
              rw [od2.nms, List.getElem?_take, if_pos mi] at h1
              have h2 : (zs.map V.str)[m]? = some (V.str z') := by rw [← tx.nms, List.getElem?_map, hr2, ← ez']; rfl
              rw [List.getElem?_map, h1] at h2
              exact V.str.inj (Option.some.inj h2)
            have od6 := od4.keep s6
            have bw := od2.bel m e r' he hr2
            have le40 := elen e me
            refine ⟨.ref bl5, rfl, r'.2.1, rfl, by show 1 ≤ sizeLine; decide, fun l1 n1 => ⟨bl5, l1, _, _, rfl, rfl, same_upd n1 _ _ e6, upd_same, ?_, fun l2 n2 => ?_⟩⟩
            · rw [List.length_map]
              exact Nat.le_trans (show bs.length + 1 ≤ 2000 by omega) (by decide)
            have s7 := (same_upd (o := .lst [r'.2.1]) n1).trans (same_upd (o := .lst (bs.map V.str ++ [r'.2.1])) n2)
            have od7 := od6.keep s7
            refine ⟨.ref d, rfl, r'.2.1, rfl, d, .ref e.2.1, rfl, ?_, l2, e.2.1, _, _, rfl, rfl, upd_same, od7.lst e me, ?_, fun l3 n3 => ?_⟩
            · have g := DGet.k (k := Sum.inr z') od7.at_
              rw [ent_get end_ he ename, show (kV (Sum.inr z') : V) = r'.2.1 from ez'.symm] at g
              exact g
            · rw [List.length_append, List.length_map, List.length_map]
              exact Nat.le_trans (show bs.length + 1 + e.2.2.length ≤ 2000 by omega) (by decide)
            refine ⟨_, _, _, l3, bs ++ [z'] ++ e.2.2, rfl, (s6.trans s7).trans (same_upd n3), ?_, ?_, fun z => ?_⟩
            · rw [upd_same, List.map_append, List.map_append, ez']
              rfl
            · rw [List.length_append, List.length_append]
              show bs.length + 1 + e.2.2.length ≤ _
              omega
            · rw [List.mem_append, List.mem_append, m5 z, tk]
              constructor
              · rintro ((⟨w, mw, h⟩ | h) | h)
                · exact ⟨w, List.mem_append_left _ mw, h⟩
                · rw [List.mem_singleton.mp h]
                  exact ⟨r', by simp, hm, r', mr', ez', path_self mr'⟩
                · obtain ⟨x, mx, ex, _, px⟩ := (bw.mem z).mp h
                  exact ⟨r', by simp, hm, x, mx, ex, px⟩
              · rintro ⟨w, mw, hw, x, mx, ex, px⟩
                rcases List.mem_append.mp mw with mw | mw
                · exact .inl (.inl ⟨w, mw, hw, x, mx, ex, px⟩)
                · obtain rfl := List.mem_singleton.mp mw
                  by_cases xe : x = w
                  · rw [xe, ez'] at ex
                    exact .inl (.inr (List.mem_singleton.mpr (V.str.inj ex).symm))
                  · exact .inr ((bw.mem z).mpr ⟨x, mx, ex, xe, px⟩)
      · rintro σ H5 ⟨x5, x6, x7, bl5, bs, rfl, s5, e5, l5, m5⟩
        have ti : ((rows.take i).map fun r => V.ref r.1).length = i := by
          rw [List.length_map, List.length_take]
          omega
        rw [ti] at l5 m5
        have g5 := sG.trans (s4.trans s5)
        obtain ⟨z, mz, ez⟩ := tx.str mr
        -- what is strictly below
        have split : rows = rows.take i ++ r :: rows.drop (i + 1) := by
          have := List.take_append_drop i rows
          rw [List.drop_eq_getElem_cons (show i < rows.length from lt)] at this
          have er : rows[i] = r := (List.getElem?_eq_some_iff.mp hr1).2
          rw [er] at this
          exact this.symm
        have bel : ∀ y, y ∈ bs ↔ ∃ x ∈ rows, x.2.1 = .str y ∧ x ≠ r ∧ Path meets rows x r := by
          intro y
          rw [m5 y]
          have rnd := tx.rnd
          constructor
          · rintro ⟨w, mw, hw, x, mx, ex, px⟩
            have xl : x ≠ r := by
              rintro rfl
              rw [split] at rnd px
              have := path_less mw rnd px
              exact (List.nodup_append.mp rnd).2.2 x (path_mem this).1 x List.mem_cons_self rfl
            refine ⟨x, mx, ex, xl, ?_⟩
            have st := path_step (t := meets) (l := rows.take i) (m := rows.drop (i + 1)) (r := r) (x := x) (by rw [← split]; exact rnd) xl
            rw [← split] at st
            exact st.mpr ⟨w, mw, hw, px⟩
          · rintro ⟨x, mx, ex, xl, px⟩
            have st := path_step (t := meets) (l := rows.take i) (m := rows.drop (i + 1)) (r := r) (x := x) (by rw [← split]; exact rnd) xl
            rw [← split] at st
            obtain ⟨w, mw, hw, pw⟩ := st.mp px
            exact ⟨w, mw, hw, x, mx, ex, pw⟩
        have bin : ∀ y ∈ bs, y ∈ zs := by
          intro y my
          obtain ⟨x, mx, ex, _⟩ := (bel y).mp my
          obtain ⟨s', ms, es'⟩ := tx.str mx
          rw [V.str.inj (ex.symm.trans es')]
          exact ms
        refine ⟨.ref bl5, rfl, bl5, bs, rfl, .inl (SqL.of e5), by omega, fun s1' n1' ns1 _ _ => ?_⟩
        refine ⟨s1', _, _, rfl, upd_same, fun ks knd kin => ?_, fun ys p ynd _ ymem _ np => ?_⟩
        · have := nodup_len knd fun y my => bin y (of_decide_eq_true (kin y my))
          omega
        have s6 := (same_upd (o := SetXO w s1' (fun k => decide (k ∈ bs)) n1') ns1).trans (same_upd (o := .lst (ys.map V.str)) np)
        have od6 := (od4.keep s5).keep s6
        have g6 := g5.trans s6
        have dp := DPut.k (k := Sum.inr z) (v := V.ref p) od6.at_ (by rw [List.length_map]; exact small1000 (by omega))
        rw [show (kV (Sum.inr z) : V) = r.2.1 from ez.symm] at dp
        refine ⟨.ref d, rfl, .ref r.1, rfl, r.1, _, 0, r.2.1, rfl, rfl, SqT.of (g6 _ _ (hp.row r mr)), rfl, d, _, rfl, dp, ?_⟩
        · have fresh : z ∉ es.map fun e => e.1 := by
            rw [od2.nms]
            intro m
            have h2 : (zs.map V.str)[i]? = some (V.str z) := by rw [← tx.nms, List.getElem?_map, hr1, ← ez]; rfl
            rw [List.getElem?_map] at h2
            obtain ⟨z2, hz2, e2⟩ := Option.map_eq_some_iff.mp h2
            rw [V.str.inj e2] at hz2
            have md : z ∈ zs.drop i := List.mem_of_getElem? (i := 0) (by rw [List.getElem?_drop]; exact hz2)
            rw [← List.take_append_drop i zs] at znd
            exact (List.nodup_append.mp znd).2.2 z m z md rfl
          rw [ent_put fresh]
          have dn : ∀ b o, H b = some o → b ≠ d := fun b o e => ne_of_none e nd
          refine ⟨_, _, _, _, _, _, es ++ [(z, p, ys)], rfl, ?_, ⟨?_, ?_, ?_, ?_⟩, ?_⟩
          · intro b o e
            rw [upd_ne (dn b o e)]
            exact (s4.trans s5).trans s6 b o e
          · rw [upd_same, List.map_append]
            rfl
          · rw [List.map_append, od2.nms, List.take_add_one]
            have h2 : (zs.map V.str)[i]? = some (V.str z) := by rw [← tx.nms, List.getElem?_map, hr1, ← ez]; rfl
            rw [List.getElem?_map] at h2
            obtain ⟨z2, hz2, e2⟩ := Option.map_eq_some_iff.mp h2
            rw [hz2, V.str.inj e2]
            rfl
          · intro e me
            rcases List.mem_append.mp me with m | m
            · have := od6.lst e m
              rw [upd_ne (fun c => by rw [c, od6.at_] at this; cases this)]
              exact this
            · rw [List.mem_singleton.mp m, upd_ne]
              · exact upd_same
              · intro c
                have ed := ((od4.keep s5).keep (same_upd (o := SetXO w s1' (fun k => decide (k ∈ bs)) n1') ns1)).at_
                have np' : (upd H5 s1' (SetXO w s1' (fun k => decide (k ∈ bs)) n1')) d = none := by
                  rw [← show p = d from c]
                  exact np
                rw [ed] at np'
                cases np'
          · intro j e r2 hj hr2
            by_cases ji : j < i
            · rw [List.getElem?_append_left (by omega)] at hj
              exact od2.bel j e r2 hj hr2
            · rw [List.getElem?_append_right (by omega), el] at hj
              have j0 : j - i = 0 := by
                have := (List.getElem?_eq_some_iff.mp hj).1
                simpa using this
              rw [j0] at hj
              cases hj
              have ji' : j = i := by omega
              rw [ji', hr1] at hr2
              cases hr2
              exact ⟨ynd, fun y => by rw [ymem y, decide_eq_true_iff]; exact bel y⟩
          · intro e me
            rcases List.mem_append.mp me with m | m
            · exact fre e m
            · rw [List.mem_singleton.mp m]
              exact ((s4.trans s5).trans (same_upd (o := SetXO w s1' (fun k => decide (k ∈ bs)) n1') ns1)).free np
    · rintro σ H1 ⟨_, _, _, _, _, _, es, rfl, s1, od, fre⟩
      rw [List.length_map] at od
      exact ⟨.ref d, rfl, q H1 d es s1 od nd fre⟩
end
end Cu

namespace Cu
open PySem PySem.Spec PyProof.Rows L2
/-! ### names and heaps, shown -/
theorem pool_short {z : Str} (m : z ∈ pool 40) : Asc z ∧ z.length ≤ 8 := by
  have e : ∀ z ∈ pool 40, (∀ c ∈ tl z, c < 128) ∧ z.length ≤ 8 := by decide +kernel
  exact e z m
theorem docs_short {v : V} (m : v ∈ docs8) : ∃ z, v = .str z ∧ Asc z ∧ z.length ≤ 8 := by
  unfold docs8 at m
  simp only [List.mem_cons, List.not_mem_nil, or_false] at m
  rcases m with rfl | rfl | rfl | rfl | rfl | rfl | rfl | rfl
  all_goals exact ⟨_, rfl, (by show ∀ c ∈ tl _, c < 128; decide +kernel), by decide +kernel⟩
theorem txt_good {K : PySem.W.Frag} : ∀ xs : List V, (∀ v ∈ xs, ∃ z, v = .str z ∧ Asc z ∧ z.length ≤ 8) → ∃ ds : List PyData, (∀ H, DpAll K H xs ds) ∧ ds.length = xs.length ∧ ∀ d ∈ ds, Good 100 1 d
  | [], _ => ⟨[], fun _ => .nil, rfl, fun _ m => nomatch m⟩
  | x :: xs, h => by
    obtain ⟨ds, h1, h2, h3⟩ := txt_good (K := K) xs fun v m => h v (List.mem_cons_of_mem _ m)
    obtain ⟨z, rfl, az, lz⟩ := h x List.mem_cons_self
    refine ⟨.str z :: ds, fun H => .cons (.str z) (h1 H), by rw [List.length_cons, h2]; rfl, fun d m => ?_⟩
    rcases List.mem_cons.mp m with m | m
    · rw [m]
      exact good_str az (by omega)
    · exact h3 d m
theorem names_good {K : PySem.W.Frag} (xs : List V) (h : ∀ v ∈ xs, ∃ z, v = .str z ∧ z ∈ pool 40) (l : xs.length ≤ 200) : ∃ d : PyData, (∀ H a, H a = some (.tup xs) → Dp K H (.ref a) d) ∧ Good 30000 2 d := by
  obtain ⟨ds, h1, h2, h3⟩ := txt_good (K := K) xs fun v m => by
    obtain ⟨z, e, mz⟩ := h v m
    exact ⟨z, e, pool_short mz⟩
  exact ⟨.tuple ds, fun H a e => .tup (SqT.of e) (h1 H), good_tup h3 (by rw [h2]; omega)⟩
theorem rows_good {K : PySem.W.Frag} {F : Hp} {t : Addr} {zs : List Str} : ∀ rows : List Row, (∀ r ∈ rows, F r.1 = some (.tup [r.2.1, .ref r.2.2.1]) ∧ F r.2.2.1 = some (.tup r.2.2.2) ∧ r.2.2.2.Sublist docs8 ∧ ∃ z, r.2.1 = .str z ∧ z ∈ pool 40) →
    ∃ ds : List PyData, (∀ H, Same F H → DpAll K H (rows.map fun r => V.ref r.1) ds) ∧ ds.length = rows.length ∧ ∀ d ∈ ds, Good 3000 3 d
  | [], _ => ⟨[], fun _ _ => .nil, rfl, fun _ m => nomatch m⟩
  | r :: rows, h => by
    obtain ⟨ds, h1, h2, h3⟩ := rows_good (K := K) (t := t) (zs := zs) rows fun v m => h v (List.mem_cons_of_mem _ m)
    obtain ⟨e1, e2, sub, z, ez, mz⟩ := h r List.mem_cons_self
    obtain ⟨dd, g1, g2, g3⟩ := txt_good (K := K) r.2.2.2 fun v m => docs_short (sub.subset m)
    have l8 : r.2.2.2.length ≤ 8 := by
      have := sub.length_le
      exact Nat.le_trans this (by decide)
    obtain ⟨az, lz⟩ := pool_short mz
    refine ⟨.tuple [.str z, .tuple dd] :: ds, fun H s => ?_, by rw [List.length_cons, h2]; rfl, fun d m => ?_⟩
    · refine .cons (.tup (SqT.of (s _ _ e1)) ?_) (h1 H s)
      rw [ez]
      exact .cons (.str z) (.cons (.tup (SqT.of (s _ _ e2)) (g1 H)) .nil)
    · rcases List.mem_cons.mp m with m | m
      · rw [m]
        refine good_tup (n := 1000) (k := 2) (fun d md => ?_) (by show (1000 + 2) * 2 + 2 ≤ 3000; decide)
        rcases List.mem_cons.mp md with md | md
        · rw [md]
          exact good_str az (by omega)
        · rw [List.mem_singleton.mp md]
          exact good_tup g3 (by rw [g2]; omega)
      · exact h3 d m
theorem heap_good {K : PySem.W.Frag} {F : Hp} {t : Addr} {rows : List Row} {zs : List Str} (hp : HeapIn F t rows) (tx : Texts rows zs) (rl : rows.length ≤ 40) : ∃ d : PyData, (∀ H, Same F H → Dp K H (.ref t) d) ∧ Good 130000 4 d := by
  obtain ⟨ds, h1, h2, h3⟩ := rows_good (K := K) (F := F) (t := t) (zs := zs) rows fun r m => ⟨hp.row r m, hp.doc r m, tx.sub r m, by
    obtain ⟨z, mz, e⟩ := tx.str m
    exact ⟨z, e, tx.inn z mz⟩⟩
  exact ⟨.tuple ds, fun H s => .tup (SqT.of (s _ _ hp.at_)) (h1 H s), good_tup h3 (by rw [h2]; omega)⟩
/-! ### what is above, what is below, by the order -/
theorem down_in {rows : List Row} {zs : List Str} (h : Texts rows zs) (ns : List Str) (o : Str) : inV (.str o) (downL (ns.map V.str) rows) = true ↔ ∃ r r' : Row, (∃ z ∈ ns, r.2.1 = .str z) ∧ r'.2.1 = .str o ∧ Path meets rows r' r := by
  have e3 : inV (.str o) (downL (ns.map V.str) rows) = inV (.str o) (reachL (ns.map V.str) rows.reverse) := by
    unfold downL inV
    rw [List.any_reverse]
  rw [e3, reach_in h.rev]
  constructor
  · rintro ⟨r, r', hz, e, hp⟩
    have := path_rev hp
    rw [List.reverse_reverse] at this
    exact ⟨r, r', hz, e, path_flip h (fun r m => m) this⟩
  · rintro ⟨r, r', hz, e, hp⟩
    exact ⟨r, r', hz, e, path_flip h (fun r m => List.mem_reverse.mp m) (path_rev hp)⟩
theorem in_map {z : Str} {l : List Str} : inV (.str z) (l.map V.str) = true ↔ z ∈ l := (in_str (fun v m => by obtain ⟨s, _, rfl⟩ := List.mem_map.mp m; exact ⟨s, rfl⟩)).trans mem_map_str
theorem above_by {rows : List Row} {zs : List Str} (h : Texts rows zs) {r : Row} (m : r ∈ rows) {o ns : List Str} (b : Below rows r o) :
    (inV r.2.1 (ns.map V.str) || (o.map fun y => inV (.str y) (ns.map V.str)).any id) = inV r.2.1 (reachL (ns.map V.str) rows) := by
  obtain ⟨z, _, ez⟩ := h.str m
  rw [ez, Bool.eq_iff_iff, Bool.or_eq_true, in_map, List.any_eq_true, reach_in h]
  constructor
  · rintro (mz | ⟨c, mc, ec⟩)
    · exact ⟨r, r, ⟨z, mz, ez⟩, ez, path_self m⟩
    · obtain ⟨y, my, rfl⟩ := List.mem_map.mp mc
      obtain ⟨x, mx, ex, _, px⟩ := (b.mem y).mp my
      exact ⟨x, r, ⟨y, in_map.mp ec, ex⟩, ez, px⟩
  · rintro ⟨x, r', ⟨y, my, ex⟩, er, px⟩
    have rr : r' = r := h.one (path_mem px).2 m (by rw [er, ez])
    subst rr
    by_cases xr : x = r'
    · rw [xr, ez] at ex
      exact .inl (by rw [V.str.inj ex]; exact my)
    · exact .inr ⟨true, List.mem_map.mpr ⟨y, (b.mem y).mpr ⟨x, (path_mem px).1, ex, xr, px⟩, in_map.mpr my⟩, rfl⟩
theorem below_by {rows : List Row} {zs : List Str} (h : Texts rows zs) {r : Row} (m : r ∈ rows) {ns : List Str} {g : Str → List Str} (inn : ∀ y ∈ ns, y ∈ zs) (b : ∀ y ∈ ns, ∀ x ∈ rows, x.2.1 = .str y → Below rows x (g y)) :
    (inV r.2.1 (ns.map V.str) || (ns.map fun y => inV r.2.1 ((g y).map V.str)).any id) = inV r.2.1 (downL (ns.map V.str) rows) := by
  obtain ⟨z, _, ez⟩ := h.str m
  rw [ez, Bool.eq_iff_iff, Bool.or_eq_true, in_map, List.any_eq_true, down_in h]
  have rowOf : ∀ y ∈ ns, ∃ x ∈ rows, x.2.1 = .str y := by
    intro y my
    have : V.str y ∈ rows.map fun r => r.2.1 := by
      rw [h.nms]
      exact List.mem_map_of_mem (inn y my)
    obtain ⟨x, mx, ex⟩ := List.mem_map.mp this
    exact ⟨x, mx, ex⟩
  constructor
  · rintro (mz | ⟨c, mc, ec⟩)
    · exact ⟨r, r, ⟨z, mz, ez⟩, ez, path_self m⟩
    · obtain ⟨y, my, rfl⟩ := List.mem_map.mp mc
      obtain ⟨x, mx, ex⟩ := rowOf y my
      obtain ⟨r', mr', er', _, px⟩ := ((b y my x mx ex).mem z).mp (in_map.mp ec)
      exact ⟨x, r', ⟨y, my, ex⟩, er', px⟩
  · rintro ⟨x, r', ⟨y, my, ex⟩, er, px⟩
    have rr : r' = r := h.one (path_mem px).1 m (by rw [er, ez])
    subst rr
    by_cases xr : r' = x
    · rw [← xr, ez] at ex
      exact .inl (by rw [V.str.inj ex]; exact my)
    · exact .inr ⟨true, List.mem_map.mpr ⟨y, my, in_map.mpr (((b y my x (path_mem px).2 ex).mem z).mpr ⟨r', m, ez, xr, px⟩)⟩, rfl⟩
theorem sub_filter {rows : List Row} {zs : List Str} (h : Texts rows zs) {L : List V} (sub : L.Sublist (rows.map fun r => r.2.1)) : L = (rows.filter fun r => inV r.2.1 L).map fun r => r.2.1 := by
  refine sub_ext h.nmnd sub ((List.filter_sublist).map _) fun v => ?_
  have st : ∀ v ∈ L, ∃ s, v = .str s := fun v m => by
    obtain ⟨r, mr, rfl⟩ := List.mem_map.mp (sub.subset m)
    obtain ⟨z, _, e⟩ := h.str mr
    exact ⟨z, e⟩
  constructor
  · intro m
    obtain ⟨r, mr, rfl⟩ := List.mem_map.mp (sub.subset m)
    obtain ⟨z, _, e⟩ := h.str mr
    refine List.mem_map.mpr ⟨r, List.mem_filter.mpr ⟨mr, ?_⟩, rfl⟩
    rw [e] at m ⊢
    exact (in_str st).mpr m
  · intro m
    obtain ⟨r, mr, rfl⟩ := List.mem_map.mp m
    obtain ⟨mr, hb⟩ := List.mem_filter.mp mr
    obtain ⟨z, _, e⟩ := h.str mr
    rw [e] at hb ⊢
    exact (in_str st).mp hb
theorem reach_sub (ns : List V) (rows : List Row) : (reachL ns rows).Sublist (rows.map fun r => r.2.1) := by
  rw [reach_pick]
  exact (pick_sub _ _ _).map _
theorem down_sub (ns : List V) (rows : List Row) : (downL ns rows).Sublist (rows.map fun r => r.2.1) := by
  have := (reach_sub ns rows.reverse).reverse
  rw [← List.map_reverse, List.reverse_reverse] at this
  exact this
/-- what is kept of the first i -/
def keptL (L : List V) (rows : List Row) (i : Nat) : List V := ((rows.take i).filter fun r => inV r.2.1 L).map fun r => r.2.1
theorem kept_next {L : List V} {rows : List Row} {i : Nat} {r : Row} (h : rows[i]? = some r) : keptL L rows (i + 1) = if inV r.2.1 L = true then keptL L rows i ++ [r.2.1] else keptL L rows i := by
  unfold keptL
  rw [List.take_add_one, h, List.filter_append, List.map_append]
  cases hb : inV r.2.1 L with
  | true =>
    rw [if_pos rfl]
    simp [hb]
  | false =>
    rw [if_neg Bool.false_ne_true]
    simp [hb]
theorem kept_len (L : List V) (rows : List Row) (i : Nat) : (keptL L rows i).length ≤ rows.length := by
  unfold keptL
  rw [List.length_map]
  refine Nat.le_trans (List.length_filter_le _ _) ?_
  rw [List.length_take]
  omega
abbrev sSt : Stmt := topS 14
abbrev nSt : List Str := ["_law_heap_here", "_law_order_here", "_law_names", "_law_above", "_law_below", "_law_name", "_law_documents", "_law_before", "_law_returned", "_law_other"]
theorem scSt : FnScope nSt ["_law_heap_here", "_law_order_here", "_law_names"] (defScope sSt) := ⟨rfl, rfl, rfl, by decide +kernel, rfl, by decide +kernel, by decide +kernel⟩
/-- the entry of a name -/
theorem OrdTo.of {H1 : Hp} {d : Addr} {rows : List Row} {zs : List Str} {es : List Ent} (o : OrdTo H1 d rows zs rows.length es) (tx : Texts rows zs) {y : Str} (my : y ∈ zs) :
    ∃ e ∈ es, valV (es.map entK) (Sum.inr y) = some (V.ref e.2.1) ∧ ∀ x ∈ rows, x.2.1 = .str y → Below rows x e.2.2 := by
  have zl : zs.length = rows.length := by
    have := congrArg List.length tx.nms
    rw [List.length_map, List.length_map] at this
    exact this.symm
  have nms : es.map (fun e => e.1) = zs := by
    rw [o.nms, ← zl, List.take_length]
  have end_ : (es.map fun e => e.1).Nodup := by
    rw [nms]
    exact tx.nd
  obtain ⟨j, hj⟩ := List.getElem?_of_mem my
  have he : (es.map fun e => e.1)[j]? = some y := by
    rw [nms]
    exact hj
  rw [List.getElem?_map] at he
  obtain ⟨e, he, ey⟩ := Option.map_eq_some_iff.mp he
  refine ⟨e, List.mem_of_getElem? he, ent_get end_ he ey, fun x mx ex => ?_⟩
  have jl : j < rows.length := by
    have := (List.getElem?_eq_some_iff.mp hj).1
    omega
  have h2 : (rows.map fun r => r.2.1)[j]? = some (V.str y) := by
    rw [tx.nms, List.getElem?_map, hj]
    rfl
  rw [List.getElem?_map] at h2
  obtain ⟨r, hr, er⟩ := Option.map_eq_some_iff.mp h2
  have : r = x := tx.one (List.mem_of_getElem? hr) mx (by rw [er, ex])
  rw [← this]
  exact o.bel j e r he hr
end Cu

namespace Cu
open PySem PySem.Spec PyProof.Rows L2
theorem kept_all {rows : List Row} {zs : List Str} (h : Texts rows zs) {L : List V} (sub : L.Sublist (rows.map fun r => r.2.1)) : keptL L rows rows.length = L := by
  unfold keptL
  rw [List.take_length]
  exact (sub_filter h sub).symm
theorem Tbk.of_same {tb : Addr} {H H1 : Hp} (t : GxR.TabG H tb) (s : Same H H1) : Tbk tb H H1 := by
  obtain ⟨ps, e, z⟩ := t
  exact ⟨fun b o _ e => s b o e, ⟨ps, s _ _ e, z⟩⟩
section
variable {P : Program} {w : World} {K : PySem.W.Frag} {mg : Str → Option Value} {base : Heap}
def spSt (tb : Addr) : Sp := fun vs H Q _ => ∃ (F : Hp) (t d n : Addr) (rows : List Row) (zs ns : List Str) (es : List Ent), vs = [.ref t, .ref d, .ref n] ∧ Same F H ∧ F tb = none ∧ GxR.TabG H tb ∧ HeapIn F t rows ∧ rows.length ≤ 40 ∧ Texts rows zs ∧
  OrdTo F d rows zs rows.length es ∧ F n = some (.tup (ns.map V.str)) ∧ ns.length ≤ 100 ∧ (∀ y ∈ ns, y ∈ zs) ∧ ∀ H', Tbk tb H H' → Q (.bl true) H'
theorem ok_sets {f fU fD tb : Addr} {fd fdU fdD : FuncData} (F : Fun K "_law_sets_right" "_law_sets_right" sSt f fd) (DU : Df K mg "up" sUp ["heap", "names"] fU fdU) (DD : Df K mg "down" sDown ["heap", "names"] fD fdD)
    (GU : FnOk P w K mg base CX0 3 fU fdU ["heap", "names"] (spUp tb reachL)) (GD : FnOk P w K mg base CX0 3 fD fdD ["heap", "names"] (spUp tb downL)) (T : Bl mg) :
    FnG P w K mg base CX0 4 f fd ["_law_heap_here", "_law_order_here", "_law_names"] (spSt tb) := by
  refine okG F scSt (fun vs H Q E h => ?_) (fun cdv A outer s H vs Q E gd hr h => ?_)
  · obtain ⟨G, t, d, n, rows, zs, ns, es, rfl, _⟩ := h
    rfl
  · obtain ⟨G, t, d, n, rows, zs, ns, es, rfl, sG, gt, tab, hp, rl, tx, od, en, nl, nin, q⟩ := h
    have hu := hu_of hr
    refine ⟨_, (pss_cons (ps_par (i := 3) (j := 4) (by rfl) scSt.nd rfl rfl (by decide) rfl rfl (pa_cons (pe_lst pa_nil) (pa_cons (pe_lst pa_nil) pa_nil)) (by rfl))
  (pss_cons (ps_for PassesOwn.never rfl (pi_tup (pv 0)) (pg_tup rfl (pgs_cons (pg_name (i := 5) scSt.nd rfl (.inr rfl)) (pgs_cons (pg_name (i := 6) scSt.nd rfl (.inl rfl)) pgs_nil)))
  (pss_cons (ps_if (PW.pt (pw_or (pt_cmpR op_in_seq (pv 5) (pv 2) (by rfl)) (pw_or1 (pt_val (pe_callB (cr_any rfl) (by rfl) T.any (by decide +kernel) (pa_cons (pe_lc (own := [("_law_other", 9)]) (g := gName 9) (tt := tYes) rfl scSt.nd (pi_list (pe_dget hu (pv 1) (pv 5) (fun _ _ => rfl))) (blkOk_by (own := [("_law_other", 9)]) (N := nSt) (sc := defScope sSt) (by decide +kernel)) (fun _ _ _ _ _ => (pg_name (i := 9) scSt.nd rfl (.inl rfl))) (fun _ _ _ _ _ => pts_nil) (fun _ _ _ _ _ => (pe_cmpR (show OpR _ (compareOp .In) (rIn K false) from op_in_seq) (pv 9) (pv 2) (by rfl)))) pa_nil))))))
  (pss_one (ps_expr (pe_bm PySem.F.plainAttrs_list PySem.F.slot_list_append PySem.F.type_list_append mt_append (pv 3) (pa_cons (pv 5) pa_nil))))
  pss_nil)
  (pss_one (ps_if (PW.pt (pw_or (pt_cmpR op_in_seq (pv 5) (pv 2) (by rfl)) (pw_or1 (pt_val (pe_callB (cr_any rfl) (by rfl) T.any (by decide +kernel) (pa_cons (pe_lc (own := [("_law_other", 9)]) (g := gName 9) (tt := tYes) rfl scSt.nd (pi_tup (pv 2)) (blkOk_by (own := [("_law_other", 9)]) (N := nSt) (sc := defScope sSt) (by decide +kernel)) (fun _ _ _ _ _ => (pg_name (i := 9) scSt.nd rfl (.inl rfl))) (fun _ _ _ _ _ => pts_nil) (fun _ _ _ _ _ => (pe_cmpR (show OpR _ (compareOp .In) (rIn K false) from op_in_seq) (pv 5) (pe_dget hu (pv 1) (pv 9) (fun _ _ => rfl)) (by rfl)))) pa_nil))))))
  (pss_one (ps_expr (pe_bm PySem.F.plainAttrs_list PySem.F.slot_list_append PySem.F.type_list_append mt_append (pv 4) (pa_cons (pv 5) pa_nil))))
  pss_nil))))
  (pss_cons (ps_set (i := 7) scSt.nd rfl (.inl rfl) (pe_callB (call_reprD gd hr.units) (by rfl) T.repr (by decide +kernel) (pa_cons (pe_tup (pa_cons (pv 0) (pa_cons (pv 2) pa_nil))) pa_nil)))
  (pss_cons (ps_set (i := 8) scSt.nd rfl (.inl rfl) (pe_callB (call_reprD gd hr.units) (by rfl) T.repr (by decide +kernel) (pa_cons (pe_lst (pa_cons (pe_call GU (hr.mono (by decide)) (by rfl) DU.g DU.F.kp DU.b .nil pass0 (pa_cons (pv 0) (pa_cons (pv 2) pa_nil))) (pa_cons (pe_call GD (hr.mono (by decide)) (by rfl) DD.g DD.F.kp DD.b .nil pass0 (pa_cons (pv 0) (pa_cons (pv 2) pa_nil))) pa_nil))) pa_nil)))
  (pss_one (ps_ret (pe_and (pe_cmpR op_eq (pv 8) (pe_callB (call_reprD gd hr.units) (by rfl) T.repr (by decide +kernel) (pa_cons (pe_lst (pa_cons (pe_callTy call_tuple_of (by rfl) T.tuple (by decide +kernel) (pa_cons (pv 3) pa_nil)) (pa_cons (pe_callTy call_tuple_of (by rfl) T.tuple (by decide +kernel) (pa_cons (pv 4) pa_nil)) pa_nil))) pa_nil)) (nomark _)) (pe_one (pe_cmpR op_eq (pe_callB (call_reprD gd hr.units) (by rfl) T.repr (by decide +kernel) (pa_cons (pe_tup (pa_cons (pv 0) (pa_cons (pv 2) pa_nil))) pa_nil)) (pv 7) (nomark _)))))))))), ?_⟩
    -- the entry of each name
    have ex : ∀ y : Str, ∃ e : Ent, y ∈ zs → e ∈ es ∧ valV (es.map entK) (Sum.inr y) = some (V.ref e.2.1) ∧ ∀ x ∈ rows, x.2.1 = .str y → Below rows x e.2.2 := fun y => by
      by_cases h : y ∈ zs
      · obtain ⟨e, h1, h2, h3⟩ := od.of tx h
        exact ⟨e, fun _ => ⟨h1, h2, h3⟩⟩
      · exact ⟨(y, t, []), fun c => absurd c h⟩
    obtain ⟨g, hg⟩ := Classical.axiomOfChoice ex
    have glen : ∀ y ∈ zs, (g y).2.2.length ≤ 40 := by
      intro y my
      obtain ⟨_, _, b⟩ := hg y my
      have mr : V.str y ∈ rows.map fun r => r.2.1 := by
        rw [tx.nms]
        exact List.mem_map_of_mem my
      obtain ⟨x, mx, ex⟩ := List.mem_map.mp mr
      have bx := b x mx ex
      have zl : zs.length = rows.length := by
        have := congrArg List.length tx.nms
        rw [List.length_map, List.length_map] at this
        exact this.symm
      have := nodup_len bx.nd fun z m => bx.inn tx m
      omega
    refine ⟨by show 0 ≤ sizeLine; decide, fun l1 n1 => ⟨by show 0 ≤ sizeLine; decide, fun l2 n2 => ⟨_, _, rfl, ?_⟩⟩⟩
    have l12 : l1 ≠ l2 := ne_of_none upd_same n2
    have h1 : H l1 = none := n1
    have h2 : H l2 = none := (same_upd n1).free n2
    have s0 : Same H (upd (upd H l1 (.lst [])) l2 (.lst [])) := (same_upd n1).trans (same_upd n2)
    have eA0 : (upd (upd H l1 (.lst [])) l2 (.lst [])) l1 = some (.lst []) := (upd_ne l12).trans upd_same
    have eB0 : (upd (upd H l1 (.lst [])) l2 (.lst [])) l2 = some (.lst []) := upd_same
    generalize upd (upd H l1 (.lst [])) l2 (.lst []) = H0 at s0 eA0 eB0 ⊢
    refine ⟨.ref t, rfl, t, rfl, ⟨_, SqT.of ((sG.trans s0) _ _ hp.at_)⟩, ?_⟩
    refine for_tup (K := K) (a := t) (xs := rows.map fun r => V.ref r.1) (fun i σ H1 => ∃ y5 y6 y7 y8 y9, σ = [some (.ref t), some (.ref d), some (.ref n), some (.ref l1), some (.ref l2), y5, y6, y7, y8, y9] ∧ Same H H1 ∧ H1 l1 = some (.lst (keptL (reachL (ns.map V.str) rows) rows i)) ∧ H1 l2 = some (.lst (keptL (downL (ns.map V.str) rows) rows i))) ?_ ?_ ?_ ?_
    · exact ⟨_, _, _, _, _, rfl, s0, eA0, eB0⟩
    · rintro i σ H1 _ ⟨_, _, _, _, _, _, s1, _⟩
      exact SqT.of ((sG.trans s1) _ _ hp.at_)
    · rintro i x σ H1 hx ⟨y5, y6, y7, y8, y9, rfl, s1, eA, eB⟩
      rw [List.getElem?_map] at hx
      obtain ⟨r, hr1, rfl⟩ := Option.map_eq_some_iff.mp hx
      have mr := List.mem_of_getElem? hr1
      obtain ⟨z, mz, ez⟩ := tx.str mr
      have nA := kept_next (L := reachL (ns.map V.str) rows) hr1
      have nB := kept_next (L := downL (ns.map V.str) rows) hr1
      have lA := kept_len (reachL (ns.map V.str) rows) rows i
      have lB := kept_len (downL (ns.map V.str) rows) rows i
      obtain ⟨mg1, vg1, bg1⟩ := hg z mz
      have ab := above_by tx mr (ns := ns) (bg1 r mr ez)
      have bb := below_by tx mr (ns := ns) (g := fun y => (g y).2.2) nin (fun y my x mx ex => (hg y (nin y my)).2.2 x mx ex)
      have g1 := sG.trans s1
      refine ⟨r.1, _, rfl, SqT.of (g1 _ _ (hp.row r mr)), rfl, _, _, rfl, _, _, rfl, rfl, ?_⟩
      refine ⟨r.2.1, rfl, .ref n, rfl, n, _, rfl, .inr (SqT.of (g1 _ _ en)), (hp.flat r mr).2, flat_strs _, _, rfl, ?_⟩
      -- above: three ways, one heap H2
      have put1 : ∀ Hx : Hp, Same H Hx → Same H (upd Hx l1 (.lst (keptL (reachL (ns.map V.str) rows) rows i ++ [r.2.1]))) := fun Hx sx => same_put sx h1
      rcases Bool.eq_false_or_eq_true (inV r.2.1 (ns.map V.str)) with c1 | c1
      case' inl =>
        rw [c1, Bool.true_or] at ab
        rw [← ab, if_pos rfl] at nA
        refine iffT (by first | rfl | exact c1) ?_
        refine ⟨.ref l1, rfl, .inl ⟨rfl, _, SqL.of eA⟩, r.2.1, rfl, l1, _, _, rfl, rfl, eA, small1000 (by omega), ?_⟩
        have s2 := put1 H1 s1
        have eA2 : (upd H1 l1 (.lst (keptL (reachL (ns.map V.str) rows) rows i ++ [r.2.1]))) l1 = some (.lst (keptL (reachL (ns.map V.str) rows) rows (i + 1))) := by rw [upd_same, nA]
        have eB2 : (upd H1 l1 (.lst (keptL (reachL (ns.map V.str) rows) rows i ++ [r.2.1]))) l2 = some (.lst (keptL (downL (ns.map V.str) rows) rows i)) := (upd_ne l12.symm).trans eB
        generalize upd H1 l1 (.lst (keptL (reachL (ns.map V.str) rows) rows i ++ [r.2.1])) = H2 at s2 eA2 eB2 ⊢
      case' inr =>
        rw [c1, Bool.false_or] at ab
        refine iffF (by first | rfl | exact c1) ?_
        have gg := DGet.k (k := Sum.inr z) (g1 _ _ od.at_)
        rw [vg1, show (kV (Sum.inr z) : V) = r.2.1 from ez.symm] at gg
        refine ⟨.ref d, rfl, r.2.1, rfl, d, .ref (g z).2.1, rfl, gg, (g z).2.1, rfl, ⟨_, SqL.of (g1 _ _ (od.lst _ mg1))⟩, fun D nD => ?_⟩
        have gD : (g z).2.1 ≠ D := ne_of_none (g1 _ _ (od.lst _ mg1)) nD
        have nD' : n ≠ D := ne_of_none (g1 _ _ en) nD
        refine lc_list (K := K) (a := (g z).2.1) (xs := (g z).2.2.map V.str) (fun j H6 => H6 = upd H1 D (.lst ((((g z).2.2.take j).map fun y => inV (.str y) (ns.map V.str)).map V.bl))) rfl ?_ ?_ ?_
        · rintro j H6 _ rfl
          exact SqL.of ((upd_ne gD).trans (g1 _ _ (od.lst _ mg1)))
        · rintro j u H6 hu2 rfl
          rw [List.getElem?_map] at hu2
          obtain ⟨y, hy, rfl⟩ := Option.map_eq_some_iff.mp hu2
          refine ⟨rfl, lc_yes ⟨.str y, rfl, .ref n, rfl, n, _, rfl, .inr (SqT.of ((upd_ne nD').trans (g1 _ _ en))), rfl, flat_strs _, _, upd_same, ?_, ?_⟩⟩
          · rw [List.length_map, List.length_map, List.length_take]
            have := glen z mz
            exact small1000 (by omega)
          · rw [upd_upd, List.take_add_one, hy, List.map_append, List.map_append]
            rfl
        · rintro H6 rfl
          rw [List.length_map, List.take_length]
          refine ⟨D, _, rfl, SqL.of upd_same, _, rfl, ?_⟩
          rw [ab]
          have s6 : Same H _ := s1.trans (same_upd (o := .lst (((g z).2.2.map fun y => inV (.str y) (ns.map V.str)).map V.bl)) nD)
          have eA6 := same_upd (o := .lst (((g z).2.2.map fun y => inV (.str y) (ns.map V.str)).map V.bl)) nD _ _ eA
          have eB6 := same_upd (o := .lst (((g z).2.2.map fun y => inV (.str y) (ns.map V.str)).map V.bl)) nD _ _ eB
          generalize upd H1 D (.lst (((g z).2.2.map fun y => inV (.str y) (ns.map V.str)).map V.bl)) = H6 at s6 eA6 eB6 ⊢
          rcases Bool.eq_false_or_eq_true (inV r.2.1 (reachL (ns.map V.str) rows)) with c2 | c2
          case' inl =>
            rw [if_pos c2] at nA
            refine iffT c2 ?_
            refine ⟨.ref l1, rfl, .inl ⟨rfl, _, SqL.of eA6⟩, r.2.1, rfl, l1, _, _, rfl, rfl, eA6, small1000 (by omega), ?_⟩
            have s2 := put1 H6 s6
            have eA2 : (upd H6 l1 (.lst (keptL (reachL (ns.map V.str) rows) rows i ++ [r.2.1]))) l1 = some (.lst (keptL (reachL (ns.map V.str) rows) rows (i + 1))) := by rw [upd_same, nA]
            have eB2 : (upd H6 l1 (.lst (keptL (reachL (ns.map V.str) rows) rows i ++ [r.2.1]))) l2 = some (.lst (keptL (downL (ns.map V.str) rows) rows i)) := (upd_ne l12.symm).trans eB6
            generalize upd H6 l1 (.lst (keptL (reachL (ns.map V.str) rows) rows i ++ [r.2.1])) = H2 at s2 eA2 eB2 ⊢
          case' inr =>
            rw [if_neg (by rw [c2]; exact Bool.false_ne_true)] at nA
            refine iffF c2 ?_
            have s2 := s6
            have eA2 := eA6
            rw [← nA] at eA2
            have eB2 := eB6
            generalize hH2 : H6 = H2 at s2 eA2 eB2 ⊢
          all_goals
            (have g2 := sG.trans s2
             refine ⟨r.2.1, rfl, .ref n, rfl, n, _, rfl, .inr (SqT.of (g2 _ _ en)), (hp.flat r mr).2, flat_strs _, _, rfl, ?_⟩
             rcases Bool.eq_false_or_eq_true (inV r.2.1 (ns.map V.str)) with c3 | c3
             · rw [c3, Bool.true_or] at bb
               rw [← bb, if_pos rfl] at nB
               refine iffT (by first | rfl | exact c3) ?_
               refine ⟨.ref l2, rfl, .inl ⟨rfl, _, SqL.of eB2⟩, r.2.1, rfl, l2, _, _, rfl, rfl, eB2, small1000 (by omega), ?_⟩
               exact ⟨_, _, _, _, _, rfl, same_put s2 h2, (upd_ne l12).trans eA2, by rw [upd_same, nB]⟩
             · rw [c3, Bool.false_or] at bb
               refine iffF (by first | rfl | exact c3) ?_
               refine ⟨.ref n, rfl, n, rfl, ⟨_, SqT.of (g2 _ _ en)⟩, fun D2 nD2 => ?_⟩
               have nE : n ≠ D2 := ne_of_none (g2 _ _ en) nD2
               have dE : d ≠ D2 := ne_of_none (g2 _ _ od.at_) nD2
               refine lc_tup (K := K) (a := n) (xs := ns.map V.str) (fun j H7 => H7 = upd H2 D2 (.lst (((ns.take j).map fun y => inV r.2.1 ((g y).2.2.map V.str)).map V.bl))) rfl ?_ ?_ ?_
               · rintro j H7 _ rfl
                 exact SqT.of ((upd_ne nE).trans (g2 _ _ en))
               · rintro j u H7 hu2 rfl
                 rw [List.getElem?_map] at hu2
                 obtain ⟨y, hy, rfl⟩ := Option.map_eq_some_iff.mp hu2
                 have my := nin y (List.mem_of_getElem? hy)
                 obtain ⟨my1, my2, _⟩ := hg y my
                 have gg := DGet.k (H := upd H2 D2 (.lst (((ns.take j).map fun y => inV r.2.1 ((g y).2.2.map V.str)).map V.bl))) (k := Sum.inr y) ((upd_ne dE).trans (g2 _ _ od.at_))
                 rw [my2] at gg
                 have gE : (g y).2.1 ≠ D2 := ne_of_none (g2 _ _ (od.lst _ my1)) nD2
                 refine ⟨rfl, lc_yes ⟨r.2.1, rfl, .ref d, rfl, .str y, rfl, d, .ref (g y).2.1, rfl, gg, (g y).2.1, _, rfl, .inl (SqL.of ((upd_ne gE).trans (g2 _ _ (od.lst _ my1)))), (hp.flat r mr).2, flat_strs _, _, upd_same, ?_, ?_⟩⟩
                 · rw [List.length_map, List.length_map, List.length_take]
                   exact small1000 (by omega)
                 · rw [upd_upd, List.take_add_one, hy, List.map_append, List.map_append]
                   rfl
               · rintro H7 rfl
                 rw [List.length_map, List.take_length]
                 refine ⟨D2, _, rfl, SqL.of upd_same, _, rfl, ?_⟩
                 rw [bb]
                 have s7 : Same H _ := s2.trans (same_upd (o := .lst ((ns.map fun y => inV r.2.1 ((g y).2.2.map V.str)).map V.bl)) nD2)
                 have eA7 := same_upd (o := .lst ((ns.map fun y => inV r.2.1 ((g y).2.2.map V.str)).map V.bl)) nD2 _ _ eA2
                 have eB7 := same_upd (o := .lst ((ns.map fun y => inV r.2.1 ((g y).2.2.map V.str)).map V.bl)) nD2 _ _ eB2
                 generalize upd H2 D2 (.lst ((ns.map fun y => inV r.2.1 ((g y).2.2.map V.str)).map V.bl)) = H7 at s7 eA7 eB7 ⊢
                 rcases Bool.eq_false_or_eq_true (inV r.2.1 (downL (ns.map V.str) rows)) with c4 | c4
                 · rw [if_pos c4] at nB
                   refine iffT c4 ?_
                   refine ⟨.ref l2, rfl, .inl ⟨rfl, _, SqL.of eB7⟩, r.2.1, rfl, l2, _, _, rfl, rfl, eB7, small1000 (by omega), ?_⟩
                   exact ⟨_, _, _, _, _, rfl, same_put s7 h2, (upd_ne l12).trans eA7, by rw [upd_same, nB]⟩
                 · rw [if_neg (by rw [c4]; exact Bool.false_ne_true)] at nB
                   refine iffF c4 ?_
                   exact ⟨_, _, _, _, _, rfl, s7, eA7, by rw [nB]; exact eB7⟩)
      all_goals
        (have g2 := sG.trans s2
         refine ⟨r.2.1, rfl, .ref n, rfl, n, _, rfl, .inr (SqT.of (g2 _ _ en)), (hp.flat r mr).2, flat_strs _, _, rfl, ?_⟩
         rcases Bool.eq_false_or_eq_true (inV r.2.1 (ns.map V.str)) with c3 | c3
         · rw [c3, Bool.true_or] at bb
           rw [← bb, if_pos rfl] at nB
           refine iffT (by first | rfl | exact c3) ?_
           refine ⟨.ref l2, rfl, .inl ⟨rfl, _, SqL.of eB2⟩, r.2.1, rfl, l2, _, _, rfl, rfl, eB2, small1000 (by omega), ?_⟩
           exact ⟨_, _, _, _, _, rfl, same_put s2 h2, (upd_ne l12).trans eA2, by rw [upd_same, nB]⟩
         · rw [c3, Bool.false_or] at bb
           refine iffF (by first | rfl | exact c3) ?_
           refine ⟨.ref n, rfl, n, rfl, ⟨_, SqT.of (g2 _ _ en)⟩, fun D2 nD2 => ?_⟩
           have nE : n ≠ D2 := ne_of_none (g2 _ _ en) nD2
           have dE : d ≠ D2 := ne_of_none (g2 _ _ od.at_) nD2
           refine lc_tup (K := K) (a := n) (xs := ns.map V.str) (fun j H7 => H7 = upd H2 D2 (.lst (((ns.take j).map fun y => inV r.2.1 ((g y).2.2.map V.str)).map V.bl))) rfl ?_ ?_ ?_
           · rintro j H7 _ rfl
             exact SqT.of ((upd_ne nE).trans (g2 _ _ en))
           · rintro j u H7 hu2 rfl
             rw [List.getElem?_map] at hu2
             obtain ⟨y, hy, rfl⟩ := Option.map_eq_some_iff.mp hu2
             have my := nin y (List.mem_of_getElem? hy)
             obtain ⟨my1, my2, _⟩ := hg y my
             have gg := DGet.k (H := upd H2 D2 (.lst (((ns.take j).map fun y => inV r.2.1 ((g y).2.2.map V.str)).map V.bl))) (k := Sum.inr y) ((upd_ne dE).trans (g2 _ _ od.at_))
             rw [my2] at gg
             have gE : (g y).2.1 ≠ D2 := ne_of_none (g2 _ _ (od.lst _ my1)) nD2
             refine ⟨rfl, lc_yes ⟨r.2.1, rfl, .ref d, rfl, .str y, rfl, d, .ref (g y).2.1, rfl, gg, (g y).2.1, _, rfl, .inl (SqL.of ((upd_ne gE).trans (g2 _ _ (od.lst _ my1)))), (hp.flat r mr).2, flat_strs _, _, upd_same, ?_, ?_⟩⟩
             · rw [List.length_map, List.length_map, List.length_take]
               exact small1000 (by omega)
             · rw [upd_upd, List.take_add_one, hy, List.map_append, List.map_append]
               rfl
           · rintro H7 rfl
             rw [List.length_map, List.take_length]
             refine ⟨D2, _, rfl, SqL.of upd_same, _, rfl, ?_⟩
             rw [bb]
             have s7 : Same H _ := s2.trans (same_upd (o := .lst ((ns.map fun y => inV r.2.1 ((g y).2.2.map V.str)).map V.bl)) nD2)
             have eA7 := same_upd (o := .lst ((ns.map fun y => inV r.2.1 ((g y).2.2.map V.str)).map V.bl)) nD2 _ _ eA2
             have eB7 := same_upd (o := .lst ((ns.map fun y => inV r.2.1 ((g y).2.2.map V.str)).map V.bl)) nD2 _ _ eB2
             generalize upd H2 D2 (.lst ((ns.map fun y => inV r.2.1 ((g y).2.2.map V.str)).map V.bl)) = H7 at s7 eA7 eB7 ⊢
             rcases Bool.eq_false_or_eq_true (inV r.2.1 (downL (ns.map V.str) rows)) with c4 | c4
             · rw [if_pos c4] at nB
               refine iffT c4 ?_
               refine ⟨.ref l2, rfl, .inl ⟨rfl, _, SqL.of eB7⟩, r.2.1, rfl, l2, _, _, rfl, rfl, eB7, small1000 (by omega), ?_⟩
               exact ⟨_, _, _, _, _, rfl, same_put s7 h2, (upd_ne l12).trans eA7, by rw [upd_same, nB]⟩
             · rw [if_neg (by rw [c4]; exact Bool.false_ne_true)] at nB
               refine iffF c4 ?_
               exact ⟨_, _, _, _, _, rfl, s7, eA7, by rw [nB]; exact eB7⟩)
    · rintro σ H1 ⟨y5, y6, y7, y8, y9, rfl, s1, eA, eB⟩
      rw [List.length_map, kept_all tx (reach_sub _ _)] at eA
      rw [List.length_map, kept_all tx (down_sub _ _)] at eB
      have zlen : ∀ L : List V, L.Sublist (rows.map fun r => r.2.1) → L.length ≤ 200 := fun L sub => by
        have := sub.length_le
        rw [List.length_map] at this
        omega
      have zpool : ∀ L : List V, L.Sublist (rows.map fun r => r.2.1) → ∀ v ∈ L, ∃ z, v = .str z ∧ z ∈ Cu.pool 40 := fun L sub v m => by
        obtain ⟨r, mr, rfl⟩ := List.mem_map.mp (sub.subset m)
        obtain ⟨z, mz, e⟩ := tx.str mr
        exact ⟨z, e, tx.inn z mz⟩
      obtain ⟨dh, hdh, gdh⟩ := heap_good (K := K) hp tx rl
      obtain ⟨dn, hdn, gdn⟩ := names_good (K := K) (ns.map V.str) (fun v m => by
        obtain ⟨z, mz, rfl⟩ := List.mem_map.mp m
        exact ⟨z, rfl, tx.inn z (nin z mz)⟩) (by rw [List.length_map]; omega)
      obtain ⟨du, hdu, gdu⟩ := names_good (K := K) (reachL (ns.map V.str) rows) (zpool _ (reach_sub _ _)) (zlen _ (reach_sub _ _))
      obtain ⟨dd, hdd, gdd⟩ := names_good (K := K) (downL (ns.map V.str) rows) (zpool _ (down_sub _ _)) (zlen _ (down_sub _ _))
      have good1 : Shw (.tuple [dh, dn]) := (good_tup (n := 130000) (k := 4) (m := 300000) (fun x mx => by
        rcases List.mem_cons.mp mx with z | z
        · rw [z]
          exact gdh
        · rw [List.mem_singleton.mp z]
          exact gdn.mono (by decide) (by decide)) (by show (130000 + 2) * 2 + 2 ≤ 300000; decide)).shw
      have good2 : Shw (.list [du, dd]) := (good_list (n := 30000) (k := 2) (m := 100000) (fun x mx => by
        rcases List.mem_cons.mp mx with z | z
        · rw [z]
          exact gdu
        · rw [List.mem_singleton.mp z]
          exact gdd) (by show (30000 + 2) * 2 + 2 ≤ 100000; decide)).shw
      -- before
      have k1 : Tbk tb H H1 := .of_same tab s1
      refine ⟨.ref t, rfl, .ref n, rfl, by show 2 ≤ sizeLine; decide, fun T1 nT1 => ?_⟩
      have s2 : Same H _ := s1.trans (same_upd (o := .tup [V.ref t, .ref n]) nT1)
      have g2 := sG.trans s2
      refine ⟨_, .tuple [dh, dn], rfl, .tup (SqT.of upd_same) (.cons (hdh _ g2) (.cons (hdn _ _ (g2 _ _ en)) .nil)), good1, ?_⟩
      have eA2 := same_upd (o := .tup [V.ref t, .ref n]) nT1 _ _ eA
      have eB2 := same_upd (o := .tup [V.ref t, .ref n]) nT1 _ _ eB
      generalize upd H1 T1 (.tup [V.ref t, .ref n]) = H2 at s2 g2 eA2 eB2 ⊢
      have k2 : Tbk tb H H2 := .of_same tab s2
      -- up and down
      have l1t : l1 ≠ tb := tab_ne tab h1
      have l2t : l2 ≠ tb := tab_ne tab h2
      refine ⟨.ref t, rfl, .ref n, rfl, G, t, n, rows, _, rfl, g2, gt, k2.tab, hp, en, flat_strs _, by omega, fun H3 lu k3 n3 e3 => ?_⟩
      have k23 := k2.trans k3
      refine ⟨.ref t, rfl, .ref n, rfl, G, t, n, rows, _, rfl, k23.same sG gt, gt, k23.tab, hp, en, flat_strs _, by omega, fun H4 ld k4 n4 e4 => ⟨by show 2 ≤ sizeLine; decide, fun L1 nL1 => ?_⟩⟩
      have k24 := k23.trans k4
      have lut : lu ≠ tb := by
        rintro rfl
        obtain ⟨ps, z, _⟩ := k3.tab
        rw [z] at e3
        cases e3
      have e34 := k4.keep lu _ lut e3
      refine ⟨_, .list [du, dd], rfl, .lst (SqL.of upd_same) (.cons (hdu _ _ (same_upd nL1 _ _ e34)) (.cons (hdd _ _ (same_upd nL1 _ _ e4)) .nil)), good2, ?_⟩
      have k5 : Tbk tb H _ := k24.trans (.new (o := .lst [V.ref lu, .ref ld]) k24.tab nL1)
      have eA5 := same_upd (o := .lst [V.ref lu, .ref ld]) nL1 _ _ (k4.keep l1 _ l1t (k3.keep l1 _ l1t eA2))
      have eB5 := same_upd (o := .lst [V.ref lu, .ref ld]) nL1 _ _ (k4.keep l2 _ l2t (k3.keep l2 _ l2t eB2))
      generalize upd H4 L1 (.lst [V.ref lu, .ref ld]) = H5 at k5 eA5 eB5 ⊢
      -- the same?
      refine ⟨_, rfl, .ref l1, rfl, l1, _, rfl, .inl ⟨SqL.of eA5, fun ta nta => ?_⟩⟩
      have k6 : Tbk tb H _ := k5.trans (.new (o := .tup (reachL (ns.map V.str) rows)) k5.tab nta)
      have eB6 := same_upd (o := .tup (reachL (ns.map V.str) rows)) nta _ _ eB5
      have et6 : (upd H5 ta (.tup (reachL (ns.map V.str) rows))) ta = some (.tup (reachL (ns.map V.str) rows)) := upd_same
      generalize upd H5 ta (.tup (reachL (ns.map V.str) rows)) = H6 at k6 eB6 et6 ⊢
      refine ⟨.ref l2, rfl, l2, _, rfl, .inl ⟨SqL.of eB6, fun tc ntc => ⟨by show 2 ≤ sizeLine; decide, fun L2 nL2 => ?_⟩⟩⟩
      have k7 : Tbk tb H _ := k6.trans (.new (o := .tup (downL (ns.map V.str) rows)) k6.tab ntc)
      have et7 := same_upd (o := .tup (downL (ns.map V.str) rows)) ntc _ _ et6
      have ec7 : (upd H6 tc (.tup (downL (ns.map V.str) rows))) tc = some (.tup (downL (ns.map V.str) rows)) := upd_same
      generalize upd H6 tc (.tup (downL (ns.map V.str) rows)) = H7 at k7 et7 ec7 nL2 ⊢
      have k8 : Tbk tb H _ := k7.trans (.new (o := .lst [V.ref ta, .ref tc]) k7.tab nL2)
      refine ⟨_, .list [du, dd], rfl, .lst (SqL.of upd_same) (.cons (hdu _ _ (same_upd nL2 _ _ et7)) (.cons (hdd _ _ (same_upd nL2 _ _ ec7)) .nil)), good2, rfl, _, rfl, iffT (decide_eq_true rfl) ?_⟩
      generalize upd H7 L2 (.lst [V.ref ta, .ref tc]) = H8 at k8 ⊢
      have g8 := k8.same sG gt
      refine ⟨.ref t, rfl, .ref n, rfl, by show 2 ≤ sizeLine; decide, fun T2 nT2 => ?_⟩
      have k9 : Tbk tb H _ := k8.trans (.new (o := .tup [V.ref t, .ref n]) k8.tab nT2)
      have g9 := g8.trans (same_upd (o := .tup [V.ref t, .ref n]) nT2)
      refine ⟨_, .tuple [dh, dn], rfl, .tup (SqT.of upd_same) (.cons (hdh _ g9) (.cons (hdn _ _ (g9 _ _ en)) .nil)), good1, _, rfl, rfl, ?_⟩
      rw [decide_eq_true rfl]
      exact q _ k9
end
end Cu

namespace Cu
open PySem PySem.Spec PyProof.Rows L2
/-! ### beside hand and tables: a view stays -/
structure Js (F : Hp) (tb t2 p : Addr) (m : Nat) (H : Hp) : Prop where
  sub : Same F H
  tab : GxR.TabG H tb
  tab2 : GxR.TabG H t2
  hand : Hand H p m
/-- what the view leaves out -/
structure Out (F : Hp) (tb t2 p : Addr) : Prop where
  o1 : F tb = none
  o2 : F t2 = none
  o3 : F p = none
  ne : t2 ≠ tb
  n1 : tb ≠ p
  n2 : t2 ≠ p
section
variable {F H H1 : Hp} {tb t2 p q : Addr} {m : Nat} {o : HO}
theorem Js.new (j : Js F tb t2 p m H) (n : H q = none) : Js F tb t2 p m (upd H q o) := ⟨j.sub.trans (same_upd n), tab_new j.tab n, tab_new j.tab2 n, j.hand.new n⟩
theorem Js.put (j : Js F tb t2 p m H) (n : F q = none) (a : q ≠ tb) (b : q ≠ t2) (c : q ≠ p) : Js F tb t2 p m (upd H q o) := ⟨same_put j.sub n, tab_put j.tab a, tab_put j.tab2 b, j.hand.at (upd_ne c.symm)⟩
theorem Js.tbk (x : Out F tb t2 p) (j : Js F tb t2 p m H) (k : Tbk tb H H1) : Js F tb t2 p m H1 := by
  have c : Tb2 tb t2 H H1 := .one x.ne k j.tab2
  exact ⟨k.same j.sub x.o1, c.tab, c.tab2, hand_to j.hand fun o e => k.keep p o x.n1.symm e⟩
theorem Js.tbd (x : Out F tb t2 p) (j : Js F tb t2 p m H) (k : GxR.Tabbed t2 H H1) : Js F tb t2 p m H1 := by
  have c : Tb2 tb t2 H H1 := .two x.ne k j.tab
  exact ⟨c.same j.sub x.o1 x.o2, c.tab, c.tab2, hand_to j.hand fun o e => (k.2 p x.n2.symm).trans e⟩
theorem Js.upto (x : Out F tb t2 p) (j : Js F tb t2 p m H) (u : Upto p H H1) {m' : Nat} (h : Hand H1 p m') : Js F tb t2 p m' H1 := by
  obtain ⟨ps, e, z⟩ := j.tab
  obtain ⟨ps2, e2, z2⟩ := j.tab2
  exact ⟨same_upto j.sub u x.o3, ⟨ps, u _ _ x.n1 e, z⟩, ⟨ps2, u _ _ x.n2 e2, z2⟩, h⟩
theorem Js.mono (j : Js F tb t2 p m H) {m' : Nat} (l : m ≤ m') : Js F tb t2 p m' H := ⟨j.sub, j.tab, j.tab2, j.hand.mono l⟩
theorem Js.ne (j : Js F tb t2 p m H) (n : H q = none) : q ≠ tb ∧ q ≠ t2 ∧ q ≠ p ∧ F q = none := ⟨tab_ne j.tab n, tab_ne j.tab2 n, Hand.ne j.hand.some n, j.sub.free n⟩
theorem hid_at {a : Addr} (e : H a = some o) (a1 : a ≠ tb) (a2 : a ≠ t2) (a3 : a ≠ p) : hid H tb t2 p a = some o := by
  unfold hid
  rw [if_neg (by rintro (z | z | z); exact a1 z; exact a2 z; exact a3 z)]
  exact e
theorem hid_of (s : Same F H) (x1 : F tb = none) (x2 : F t2 = none) (x3 : F p = none) : Same F (hid H tb t2 p) := fun b o e => hid_at (s b o e) (ne_of_none e x1) (ne_of_none e x2) (ne_of_none e x3)
end
theorem Js.grow {F H : Hp} {tb t2 p q : Addr} {m : Nat} {o : HO} (j : Js F tb t2 p m H) (n : H q = none) : Js (upd F q o) tb t2 p m (upd H q o) := ⟨same_both j.sub n, tab_new j.tab n, tab_new j.tab2 n, j.hand.new n⟩
theorem Out.grow {F : Hp} {tb t2 p q : Addr} {o : HO} (x : Out F tb t2 p) (a : q ≠ tb) (b : q ≠ t2) (c : q ≠ p) : Out (upd F q o) tb t2 p := ⟨(upd_ne a.symm).trans x.o1, (upd_ne b.symm).trans x.o2, (upd_ne c.symm).trans x.o3, x.ne, x.n1, x.n2⟩
/-- lots of names, in the view -/
def Lots (W : Hp) (zs : List Str) (xs : List V) : Prop := ∀ v ∈ xs, ∃ (n : Addr) (ns : List Str), v = .ref n ∧ W n = some (.tup (ns.map V.str)) ∧ ns.length ≤ 100 ∧ ∀ y ∈ ns, y ∈ zs
theorem Lots.more {W W' : Hp} {zs : List Str} {xs : List V} (l : Lots W zs xs) (s : Same W W') : Lots W' zs xs := fun v m => by
  obtain ⟨n, ns, a, b, c⟩ := l v m
  exact ⟨n, ns, a, s _ _ b, c⟩
theorem is_below_by {rows : List Row} {zs : List Str} (h : Texts rows zs) {x o : Str} {g : List Str} (mo : o ∈ zs) (b : ∀ r ∈ rows, r.2.1 = .str o → Below rows r g) : (decide (x ≠ o) && inV (.str o) (reachL [.str x] rows)) = inV (.str x) (g.map V.str) := by
  have : V.str o ∈ rows.map fun r => r.2.1 := by
    rw [h.nms]
    exact List.mem_map_of_mem mo
  obtain ⟨r, mr, er⟩ := List.mem_map.mp this
  have bl := b r mr er
  have e1 := reach_in h [x] o
  rw [Bool.eq_iff_iff, Bool.and_eq_true, decide_eq_true_iff, in_map, bl.mem x]
  constructor
  · rintro ⟨ne, hb⟩
    obtain ⟨y, r', ⟨z, mz, ey⟩, er', px⟩ := e1.mp hb
    rw [List.mem_singleton.mp mz] at ey
    have rr : r' = r := h.one (path_mem px).2 mr (by rw [er', er])
    subst rr
    refine ⟨y, (path_mem px).1, ey, ?_, px⟩
    rintro rfl
    rw [ey] at er
    exact ne (V.str.inj er)
  · rintro ⟨y, my, ey, ne, px⟩
    refine ⟨?_, e1.mpr ⟨y, r, ⟨x, List.mem_singleton.mpr rfl, ey⟩, er, px⟩⟩
    rintro rfl
    exact ne (h.one my mr (by rw [ey, er]))
theorem list_nil {K : PySem.W.Frag} (zs : List Str) (h : ∀ z ∈ zs, z ∈ pool 40) : ∃ d : PyData, (∀ H a, H a = some (.lst (zs.map V.str)) → Dp K H (.ref a) d) ∧ SeqAt.shaped d = true ∧ SeqAt.shaped (.list []) = true ∧ (PyData.eqv d (.list []) = true ↔ zs = []) := by
  obtain ⟨ds, h1, h2, h3⟩ := pool_data (K := K) (zs.map V.str) fun v m => by
    obtain ⟨z, mz, rfl⟩ := List.mem_map.mp m
    exact ⟨z, rfl, h z mz⟩
  have sh : SeqAt.shaped (.list ds) = true := by
    have e2 : (PyData.list ds).canLay0 = true := by
      simp only [PyData.canLay0] at h2 ⊢
      exact h2
    have e3 : (PyData.list ds).depth ≤ 1 := by
      simp only [PyData.depth] at h3 ⊢
      exact h3
    unfold SeqAt.shaped
    rw [e2, decide_eq_true (by omega)]
    rfl
  refine ⟨.list ds, fun H a e => .lst (SqL.of e) (h1 H), sh, by decide +kernel, ?_⟩
  have ln : ds.length = zs.length := by
    have : ∀ (xs : List V) (ys : List PyData), DpAll K (fun _ => none) xs ys → ys.length = xs.length := by
      intro xs
      induction xs with
      | nil =>
        intro ys h
        cases h
        rfl
      | cons x xs ih =>
        intro ys h
        cases h with
        | cons _ h2 =>
          rw [List.length_cons, List.length_cons, ih _ h2]
    have := this _ _ (h1 fun _ => none)
    rw [List.length_map] at this
    exact this
  cases zs with
  | nil =>
    have : ds = [] := List.eq_nil_of_length_eq_zero ln
    subst this
    simp [PyData.eqv, PyData.eqvAll]
  | cons z zs =>
    cases ds with
    | nil => cases ln
    | cons d ds => simp [PyData.eqv, PyData.eqvAll]
abbrev sRt : Stmt := topS 15
abbrev nRt : List Str := ["_law_hand_here", "_law_heap_here", "_law_order_here", "_law_names", "_law_one", "_law_other", "_law_some", "_law_turn", "_law_document", "_law_due", "_law_name", "_law_documents", "_law_again", "_law_lot"]
theorem scRt : FnScope nRt ["_law_hand_here", "_law_heap_here"] (defScope sRt) := ⟨rfl, rfl, rfl, by decide +kernel, rfl, by decide +kernel, by decide +kernel⟩
section
variable {P : Program} {w : World} {K : PySem.W.Frag} {mg : Str → Option Value} {base : Heap}
def spRt (tb t2 : Addr) : Sp := fun vs H Q _ => ∃ (F : Hp) (p t : Addr) (m : Nat) (rows : List Row) (zs : List Str), vs = [.ref p, .ref t] ∧ Out F tb t2 p ∧ Js F tb t2 p m H ∧ m + 1000 < 2 ^ 40 ∧ HeapIn F t rows ∧ rows.length ≤ 40 ∧ Texts rows zs ∧
  ∀ H', (∀ b o, b ≠ tb → b ≠ t2 → b ≠ p → H b = some o → H' b = some o) → GxR.TabG H' tb → GxR.TabG H' t2 → Hand H' p (m + 100) → Q (.bl true) H'
theorem ok_right {f fT fO fB fL fOr fSt tb t2 : Addr} {fd fdT fdO fdB fdL fdOr fdSt : FuncData} (F : Fun K "_law_right" "_law_right" sRt f fd) (DT : Df K mg "_law_take" sTake ["_law_hand_here", "_law_many"] fT fdT) (DO : Df K mg "_law_of" sOf ["_law_hand_here", "_law_some"] fO fdO)
    (DB : Df K mg "is_below" sBelow ["heap", "name", "other"] fB fdB) (DLO : Df K mg "list_of" sListOf ["heap", "document"] fL fdL) (DOr : Df K mg "_law_order" sOr ["_law_heap_here"] fOr fdOr) (DSt : Df K mg "_law_sets_right" sSt ["_law_heap_here", "_law_order_here", "_law_names"] fSt fdSt)
    (GB : FnOk P w K mg base CX0 4 fB fdB ["heap", "name", "other"] (spBelow tb)) (GLO : FnOk P w K mg base CX0 1 fL fdL ["heap", "document"] (spList K t2)) (GSt : FnG P w K mg base CX0 4 fSt fdSt ["_law_heap_here", "_law_order_here", "_law_names"] (spSt tb)) (T : Bl mg) :
    FnG P w K mg base CX0 5 f fd ["_law_hand_here", "_law_heap_here"] (spRt tb t2) := by
  have GT : FnOk P w K mg base CX0 1 fT fdT _ spTake := ok_take DT.F T
  have GL : FnOk P w K mg base CX0 2 fO fdO _ spOfL := ok_ofL DO.F DT T
  have GOr : FnOk P w K mg base CX0 1 fOr fdOr _ spOr := ok_order DOr.F T
  refine okG F scRt (fun vs H Q E h => ?_) (fun cdv A outer s H vs Q E gd hr h => ?_)
  · obtain ⟨G, p, t, m, rows, zs, rfl, _⟩ := h
    rfl
  · obtain ⟨G, p, t, m, rows, zs, rfl, x0, j0, mb, hp0, rl, tx, q⟩ := h
    have hu := hu_of hr
    refine ⟨_, (pss_cons (ps_asg (pe_tup (pa_cons (pe_call GOr (hr.mono (by decide)) (by rfl) DOr.g DOr.F.kp DOr.b .nil pass0 (pa_cons (pv 1) pa_nil)) (pa_cons (pe_lc (own := [("_law_name", 10), ("_law_documents", 11)]) (g := gTup K 2 (gCons (gName 10) (gCons (gName 11) gNil))) (tt := tYes) rfl scRt.nd (pi_tup (pv 1)) (blkOk_by (own := [("_law_name", 10), ("_law_documents", 11)]) (N := nRt) (sc := defScope sRt) (by decide +kernel)) (fun _ _ _ _ _ => (pg_tup rfl (pgs_cons (pg_name (i := 10) scRt.nd rfl (.inl rfl)) (pgs_cons (pg_name (i := 11) scRt.nd rfl (.inl rfl)) pgs_nil)))) (fun _ _ _ _ _ => pts_nil) (fun _ _ _ _ _ => (pv 10))) pa_nil))) (pg_tup rfl (pgs_cons (pg_name (i := 2) scRt.nd rfl (.inr rfl)) (pgs_cons (pg_name (i := 3) scRt.nd rfl (.inr rfl)) pgs_nil))))
  (pss_cons (ps_for PassesOwn.never rfl (pi_list (pv 3)) (pg_name (i := 4) scRt.nd rfl (.inl rfl))
  (pss_one (ps_for PassesOwn.never rfl (pi_list (pv 3)) (pg_name (i := 5) scRt.nd rfl (.inl rfl))
  (pss_one (ps_if (pt_cmpR op_ne (pe_callB (call_reprD gd hr.units) (by rfl) T.repr (by decide +kernel) (pa_cons (pe_call GB (hr.mono (by decide)) (by rfl) DB.g DB.F.kp DB.b .nil pass0 (pa_cons (pv 1) (pa_cons (pv 4) (pa_cons (pv 5) pa_nil)))) pa_nil)) (pe_callB (call_reprD gd hr.units) (by rfl) T.repr (by decide +kernel) (pa_cons (pe_cmpR op_in_seq (pv 4) (pe_dget hu (pv 2) (pv 5) (fun _ _ => rfl)) (by rfl)) pa_nil)) (nomark _))
  (pss_one (ps_ret pe_bl))
  pss_nil)))))
  (pss_cons (ps_set (i := 6) scRt.nd rfl (.inl rfl) (pe_lst (pa_cons (pe_tup pa_nil) (pa_cons (pe_callTy call_tuple_of (by rfl) T.tuple (by decide +kernel) (pa_cons (pv 3) pa_nil)) (pa_cons (pe_callTy call_tuple_of (by rfl) T.tuple (by decide +kernel) (pa_cons (pe_revL (pv 3)) pa_nil)) pa_nil)))))
  (pss_cons (ps_for PassesOwn.never rfl (pi_range1 (by rfl) T.range (pa_cons (pe_op op_mul pe_int (pe_callTy call_int1 (by rfl) T.int (by decide +kernel) (pa_cons (pe_cmpR (op_neD hr.units) (pv 3) (pe_lst pa_nil) (nomark _)) pa_nil))) pa_nil)) (pg_name (i := 7) scRt.nd rfl (.inl rfl))
  (pss_one (ps_expr (pe_bm PySem.F.plainAttrs_list PySem.F.slot_list_append PySem.F.type_list_append mt_append (pv 6) (pa_cons (pe_callTy call_tuple_of (by rfl) T.tuple (by decide +kernel) (pa_cons (pe_lc (own := [("_law_again", 12)]) (g := gName 12) (tt := tYes) rfl scRt.nd (pi_range1 (by rfl) T.range (pa_cons (pe_op op_add pe_int (pe_call GT (hr.mono (by decide)) (by rfl) DT.g DT.F.kp DT.b .nil pass0 (pa_cons (pv 0) (pa_cons pe_int pa_nil)))) pa_nil)) (blkOk_by (own := [("_law_again", 12)]) (N := nRt) (sc := defScope sRt) (by decide +kernel)) (fun _ _ _ _ _ => (pg_name (i := 12) scRt.nd rfl (.inl rfl))) (fun _ _ _ _ _ => pts_nil) (fun _ _ _ _ _ => (pe_call GL (hr.mono (by decide)) (by rfl) DO.g DO.F.kp DO.b .nil pass0 (pa_cons (pv 0) (pa_cons (pv 3) pa_nil))))) pa_nil)) pa_nil)))))
  (pss_cons (ps_if (pt_not (pt_val (pe_callB (cr_all rfl) (by rfl) T.all (by decide +kernel) (pa_cons (pe_lc (own := [("_law_lot", 13)]) (g := gName 13) (tt := tYes) rfl scRt.nd (pi_list (pv 6)) (blkOk_by (own := [("_law_lot", 13)]) (N := nRt) (sc := defScope sRt) (by decide +kernel)) (fun _ _ _ _ _ => (pg_name (i := 13) scRt.nd rfl (.inl rfl))) (fun _ _ _ _ _ => pts_nil) (fun _ _ _ _ _ => (pe_callG GSt gd (hr.mono (by decide)) (by rfl) DSt.g DSt.F.kp DSt.b .nil pass0 (pa_cons (pv 1) (pa_cons (pv 2) (pa_cons (pv 13) pa_nil)))))) pa_nil))))
  (pss_one (ps_ret pe_bl))
  pss_nil)
  (pss_cons (ps_for PassesOwn.never rfl (pi_tup (pe_tup (pa_cons pe_str (pa_cons pe_str (pa_cons pe_str (pa_cons pe_str (pa_cons pe_str (pa_cons pe_str (pa_cons pe_str (pa_cons pe_str (pa_cons pe_str pa_nil))))))))))) (pg_name (i := 8) scRt.nd rfl (.inr rfl))
  (pss_cons (ps_set (i := 9) scRt.nd rfl (.inl rfl) (pe_callTy call_tuple_of (by rfl) T.tuple (by decide +kernel) (pa_cons (pe_lc (own := [("_law_name", 10), ("_law_documents", 11)]) (g := gTup K 2 (gCons (gName 10) (gCons (gName 11) gNil))) rfl scRt.nd (pi_tup (pv 1)) (blkOk_by (own := [("_law_name", 10), ("_law_documents", 11)]) (N := nRt) (sc := defScope sRt) (by decide +kernel)) (fun _ _ _ _ _ => (pg_tup rfl (pgs_cons (pg_name (i := 10) scRt.nd rfl (.inl rfl)) (pgs_cons (pg_name (i := 11) scRt.nd rfl (.inl rfl)) pgs_nil)))) (fun _ _ _ _ _ => (pts_one (pt_cmpR (show OpR _ (compareOp .In) (rIn K false) from op_in_seq) (pv 8) (pv 11) (by rfl)))) (fun _ _ _ _ _ => (pv 10))) pa_nil)))
  (pss_one (ps_if (pt_cmpR op_ne (pe_callB (call_reprD gd hr.units) (by rfl) T.repr (by decide +kernel) (pa_cons (pe_call GLO (hr.mono (by decide)) (by rfl) DLO.g DLO.F.kp DLO.b .nil pass0 (pa_cons (pv 1) (pa_cons (pv 8) pa_nil))) pa_nil)) (pe_callB (call_reprD gd hr.units) (by rfl) T.repr (by decide +kernel) (pa_cons (pv 9) pa_nil)) (nomark _))
  (pss_one (ps_ret pe_bl))
  pss_nil))))
  (pss_one (ps_ret pe_bl)))))))), ?_⟩
    have zl : zs.length = rows.length := by
      have := congrArg List.length tx.nms
      rw [List.length_map, List.length_map] at this
      exact this.symm
    -- the order
    refine ⟨.ref t, rfl, G, t, rows, zs, rfl, j0.sub, hp0, rl, tx, fun H1 d es s1 od1 nd1 fre => ?_⟩
    have g1 := j0.sub.trans s1
    refine ⟨.ref t, rfl, t, rfl, ⟨_, SqT.of (g1 _ _ hp0.at_)⟩, fun D nD => ?_⟩
    refine lc_tup (K := K) (a := t) (xs := rows.map fun r => V.ref r.1) (fun i H2 => H2 = upd H1 D (.lst ((rows.take i).map fun r => r.2.1))) rfl ?_ ?_ ?_
    · rintro i H2 _ rfl
      exact SqT.of ((g1.trans (same_upd nD)) _ _ hp0.at_)
    · rintro i x H2 hx rfl
      rw [List.getElem?_map] at hx
      obtain ⟨r, hr1, rfl⟩ := Option.map_eq_some_iff.mp hx
      have mr := List.mem_of_getElem? hr1
      refine ⟨r.1, _, rfl, SqT.of ((g1.trans (same_upd nD)) _ _ (hp0.row r mr)), rfl, _, _, rfl, _, _, rfl, rfl, ?_⟩
      refine ⟨rfl, lc_yes ⟨r.2.1, rfl, _, upd_same, ?_, ?_⟩⟩
      · rw [List.length_map, List.length_take]
        exact small1000 (by omega)
      · rw [upd_upd, List.take_add_one, hr1, List.map_append]
        rfl
    · rintro H2 rfl
      rw [List.length_map, List.take_length, tx.nms]
      refine ⟨by show 2 ≤ sizeLine; decide, fun T2 nT2 => ⟨T2, _, rfl, SqT.of upd_same, rfl, _, _, rfl, _, _, rfl, rfl, ?_⟩⟩
      -- the view
      have nD0 : H D = none := s1.free nD
      obtain ⟨D1, D2, D3, _⟩ := j0.ne nD0
      obtain ⟨d1, d2, d3, _⟩ := j0.ne nd1
      have s3 : Same H1 (upd (upd H1 D (.lst (zs.map V.str))) T2 (.tup [V.ref d, .ref D])) := (same_upd nD).trans (same_upd nT2)
      have s13 := s1.trans s3
      have eD3 : (upd (upd H1 D (.lst (zs.map V.str))) T2 (.tup [V.ref d, .ref D])) D = some (.lst (zs.map V.str)) := same_upd nT2 _ _ upd_same
      have od3 := od1.keep s3
      generalize upd (upd H1 D (.lst (zs.map V.str))) T2 (.tup [V.ref d, .ref D]) = H3 at s3 s13 eD3 od3 ⊢
      have g3 := j0.sub.trans s13
      have hp : HeapIn (hid H3 tb t2 p) t rows := hp0.more (hid_of g3 x0.o1 x0.o2 x0.o3)
      have od : OrdTo (hid H3 tb t2 p) d rows zs rows.length es := ⟨hid_at od3.at_ d1 d2 d3, od3.nms, fun e me => by
        obtain ⟨a1, a2, a3, _⟩ := j0.ne (fre e me)
        exact hid_at (od3.lst e me) a1 a2 a3, od3.bel⟩
      have eD : hid H3 tb t2 p D = some (.lst (zs.map V.str)) := hid_at eD3 D1 D2 D3
      have x : Out (hid H3 tb t2 p) tb t2 p := ⟨hid1 _ _ _ _, hid2 _ _ _ _, hid3 _ _ _ _, x0.ne, x0.n1, x0.n2⟩
      have keep : ∀ b o, b ≠ tb → b ≠ t2 → b ≠ p → H b = some o → hid H3 tb t2 p b = some o := fun b o a1 a2 a3 e => hid_at (s13 b o e) a1 a2 a3
      have j3 : Js (hid H3 tb t2 p) tb t2 p m H3 := by
        obtain ⟨ps, e, z⟩ := j0.tab
        obtain ⟨ps2, e2, z2⟩ := j0.tab2
        exact ⟨hid_same _ _ _ _, ⟨ps, s13 _ _ e, z⟩, ⟨ps2, s13 _ _ e2, z2⟩, j0.hand.same s13⟩
      generalize hid H3 tb t2 p = W at hp od eD x keep j3
      have ex : ∀ y : Str, ∃ e : Ent, y ∈ zs → e ∈ es ∧ valV (es.map entK) (Sum.inr y) = some (V.ref e.2.1) ∧ ∀ x ∈ rows, x.2.1 = .str y → Below rows x e.2.2 := fun y => by
        by_cases h : y ∈ zs
        · obtain ⟨e, h1, h2, h3⟩ := od.of tx h
          exact ⟨e, fun _ => ⟨h1, h2, h3⟩⟩
        · exact ⟨(y, t, []), fun c => absurd c h⟩
      obtain ⟨g, hg⟩ := Classical.axiomOfChoice ex
      -- below, by the order
      refine ⟨.ref D, rfl, D, rfl, ⟨_, SqL.of (j3.sub _ _ eD)⟩, ?_⟩
      refine for_list (K := K) (a := D) (xs := zs.map V.str) (fun i σ H4 => ∃ y4 y5 y6 y7 y8 y9 y10 y11 y12 y13, σ = [some (.ref p), some (.ref t), some (.ref d), some (.ref D), y4, y5, y6, y7, y8, y9, y10, y11, y12, y13] ∧ Js W tb t2 p m H4) ?_ ?_ ?_ ?_
      · exact ⟨_, _, _, _, _, _, _, _, _, _, rfl, j3⟩
      · rintro i σ H4 _ ⟨_, _, _, _, _, _, _, _, _, _, _, j⟩
        exact SqL.of (j.sub _ _ eD)
      · rintro i v σ H4 hv ⟨y4, y5, y6, y7, y8, y9, y10, y11, y12, y13, rfl, j4⟩
        rw [List.getElem?_map] at hv
        obtain ⟨a, ha, rfl⟩ := Option.map_eq_some_iff.mp hv
        refine ⟨.ref D, rfl, D, rfl, ⟨_, SqL.of (j4.sub _ _ eD)⟩, ?_⟩
        refine for_list (K := K) (a := D) (xs := zs.map V.str) (fun i σ H4 => ∃ y5 y6 y7 y8 y9 y10 y11 y12 y13, σ = [some (.ref p), some (.ref t), some (.ref d), some (.ref D), some (.str a), y5, y6, y7, y8, y9, y10, y11, y12, y13] ∧ Js W tb t2 p m H4) ?_ ?_ ?_ ?_
        · exact ⟨_, _, _, _, _, _, _, _, _, rfl, j4⟩
        · rintro i σ H5 _ ⟨_, _, _, _, _, _, _, _, _, _, j⟩
          exact SqL.of (j.sub _ _ eD)
        · rintro i2 v σ H5 hv2 ⟨y5, y6, y7, y8, y9, y10, y11, y12, y13, rfl, j5⟩
          rw [List.getElem?_map] at hv2
          obtain ⟨b, hb, rfl⟩ := Option.map_eq_some_iff.mp hv2
          have mb2 := List.mem_of_getElem? hb
          obtain ⟨mg1, vg1, bg1⟩ := hg b mb2
          have eq := is_below_by tx (x := a) mb2 bg1
          refine ⟨.ref t, rfl, .str a, rfl, .str b, rfl, W, t, rows, a, b, rfl, j5.sub, x.o1, j5.tab, hp, by omega, fun H6 k6 => ?_⟩
          have j6 := j5.tbk x k6
          have gg := DGet.k (k := Sum.inr b) (j6.sub _ _ od.at_)
          rw [vg1] at gg
          refine ⟨_, _, rfl, .bl _, (good_bool (n := 10) (k := 1) _ (by decide)).shw, ?_⟩
          refine ⟨.str a, rfl, .ref d, rfl, .str b, rfl, d, .ref (g b).2.1, rfl, gg, (g b).2.1, _, rfl, .inl (SqL.of (j6.sub _ _ (od.lst _ mg1))), rfl, flat_strs _, _, _, rfl, .bl _, (good_bool (n := 10) (k := 1) _ (by decide)).shw, rfl, _, rfl, iffF ?_ ?_⟩
          · rw [eq]
            exact ne_self _
          · exact ⟨_, _, _, _, _, _, _, _, _, rfl, j6⟩
        · rintro σ H5 ⟨_, _, _, _, _, _, _, _, _, rfl, j⟩
          exact ⟨_, _, _, _, _, _, _, _, _, _, rfl, j⟩
      · rintro σ H4 ⟨y4, y5, y6, y7, y8, y9, y10, y11, y12, y13, rfl, j4⟩
        have zin : ∀ z ∈ zs, z ∈ Cu.pool 40 := tx.inn
        -- some names
        refine ⟨by show 0 ≤ sizeLine; decide, fun e0 ne0 => ?_⟩
        obtain ⟨a1, a2, a3, a4⟩ := j4.ne ne0
        have j5 := j4.grow (o := .tup []) ne0
        have x5 := x.grow (o := .tup []) a1 a2 a3
        have w5 : Same W (upd W e0 (.tup [])) := same_upd a4
        have l5 : Lots (upd W e0 (.tup [])) zs [V.ref e0] := fun v mv => by
          rw [List.mem_singleton.mp mv]
          exact ⟨e0, [], rfl, upd_same, by decide, (fun _ c => nomatch c)⟩
        generalize upd H4 e0 (.tup []) = H5 at j5 ⊢
        generalize upd W e0 (.tup []) = W5 at j5 x5 w5 l5
        clear a1 a2 a3 a4
        refine ⟨.ref D, rfl, D, _, rfl, .inl ⟨SqL.of (j5.sub _ _ (w5 _ _ eD)), fun t6 n6 => ?_⟩⟩
        obtain ⟨a1, a2, a3, a4⟩ := j5.ne n6
        have j6 := j5.grow (o := .tup (zs.map V.str)) n6
        have x6 := x5.grow (o := .tup (zs.map V.str)) a1 a2 a3
        have w6 := w5.trans (same_upd (o := .tup (zs.map V.str)) a4)
        have l6 : Lots (upd W5 t6 (.tup (zs.map V.str))) zs [V.ref e0, .ref t6] := fun v mv => by
          rcases List.mem_cons.mp mv with z | z
          · exact (l5.more (same_upd a4)) v (by rw [z]; exact List.mem_singleton.mpr rfl)
          · rw [List.mem_singleton.mp z]
            exact ⟨t6, zs, rfl, upd_same, by omega, fun y my => my⟩
        generalize upd H5 t6 (.tup (zs.map V.str)) = H6 at j6 ⊢
        generalize upd W5 t6 (.tup (zs.map V.str)) = W6 at j6 x6 w6 l6
        clear a1 a2 a3 a4
        refine ⟨.ref D, rfl, D, _, rfl, SqL.of (j6.sub _ _ (w6 _ _ eD)), fun r7 nr7 => ?_⟩
        have j7 := j6.new (o := .lst (zs.map V.str).reverse) nr7
        have er7 : (upd H6 r7 (.lst (zs.map V.str).reverse)) r7 = some (.lst (zs.map V.str).reverse) := upd_same
        generalize upd H6 r7 (.lst (zs.map V.str).reverse) = H7 at j7 er7 ⊢
        refine ⟨r7, _, rfl, .inl ⟨SqL.of er7, fun t8 n8 => ?_⟩⟩
        obtain ⟨a1, a2, a3, a4⟩ := j7.ne n8
        rw [← List.map_reverse]
        have j8 := j7.grow (o := .tup (zs.reverse.map V.str)) n8
        have x8 := x6.grow (o := .tup (zs.reverse.map V.str)) a1 a2 a3
        have w8 := w6.trans (same_upd (o := .tup (zs.reverse.map V.str)) a4)
        have l8 : Lots (upd W6 t8 (.tup (zs.reverse.map V.str))) zs [V.ref e0, .ref t6, .ref t8] := fun v mv => by
          rcases List.mem_cons.mp mv with z | z
          · exact (l6.more (same_upd a4)) v (by rw [z]; exact List.mem_cons_self)
          · rcases List.mem_cons.mp z with z | z
            · exact (l6.more (same_upd a4)) v (by rw [z]; exact List.mem_cons_of_mem _ List.mem_cons_self)
            · rw [List.mem_singleton.mp z]
              exact ⟨t8, zs.reverse, rfl, upd_same, by rw [List.length_reverse]; omega, fun y my => List.mem_reverse.mp my⟩
        generalize upd H7 t8 (.tup (zs.reverse.map V.str)) = H8 at j8 ⊢
        generalize upd W6 t8 (.tup (zs.reverse.map V.str)) = W8 at j8 x8 w8 l8
        clear a1 a2 a3 a4
        refine ⟨by show 3 ≤ sizeLine; decide, fun S nS => ?_⟩
        obtain ⟨S1, S2, S3, S4⟩ := j8.ne nS
        have j9 := j8.new (o := .lst [V.ref e0, .ref t6, .ref t8]) nS
        have eS9 : (upd H8 S (.lst [V.ref e0, .ref t6, .ref t8])) S = some (.lst [V.ref e0, .ref t6, .ref t8]) := upd_same
        generalize upd H8 S (.lst [V.ref e0, .ref t6, .ref t8]) = H9 at j9 eS9 ⊢
        -- how many
        obtain ⟨dl, hdl, sh1, sh2, hnil⟩ := list_nil (K := K) zs zin
        refine ⟨.ref D, rfl, by show 0 ≤ sizeLine; decide, fun eL neL => ?_⟩
        have ja := j9.new (o := .lst []) neL
        have eSa := same_upd (o := .lst []) neL _ _ eS9
        refine ⟨dl, .list [], hdl _ _ (ja.sub _ _ (w8 _ _ eD)), .lst (SqL.of upd_same) .nil, sh1, sh2, ?_⟩
        generalize upd H9 eL (.lst []) = Ha at ja eSa ⊢
        refine .inr ⟨_, rfl, 3, _, rfl, rfl, .inl ⟨by decide, by decide⟩, ?_⟩
        obtain ⟨N, hN, N0, N3, Nz⟩ : ∃ N : Int, 3 * (if (!PyData.eqv dl (.list [])) = true then (1 : Int) else 0) = N ∧ 0 ≤ N ∧ N ≤ 3 ∧ (0 < N → zs ≠ []) := by
          cases hb : PyData.eqv dl (.list []) with
          | true => exact ⟨0, rfl, by decide, by decide, fun c => absurd c (by decide)⟩
          | false => exact ⟨3, rfl, by decide, by decide, fun _ c => by rw [hnil.mpr c] at hb; cases hb⟩
        refine ⟨N, congrArg (fun z : Int => [V.int z]) hN, by omega, by omega, ?_⟩
        refine for_range (lo := 0) (n := N.toNat) (fun i σ Hb => ∃ (y4 y5 y7 y8 y9 y10 y11 y12 y13 : Option V) (Wb : Hp) (xs : List V), σ = [some (.ref p), some (.ref t), some (.ref d), some (.ref D), y4, y5, some (.ref S), y7, y8, y9, y10, y11, y12, y13] ∧ Js Wb tb t2 p (m + 10 * i) Hb ∧ Out Wb tb t2 p ∧ Same W Wb ∧ Wb S = none ∧ Hb S = some (.lst xs) ∧ Lots Wb zs xs ∧ xs.length ≤ 3 + i) ?_ ?_ ?_
        · exact ⟨_, _, _, _, _, _, _, _, _, W8, _, rfl, ja, x8, w8, S4, eSa, l8, by show 3 ≤ 3; decide⟩
        · rintro i σ Hb hi ⟨y4, y5, y7, y8, y9, y10, y11, y12, y13, Wb, xs, rfl, jb, xb, wb, Sb, eSb, lb, xl⟩
          have zne : zs ≠ [] := Nz (by omega)
          have zpos : 0 < zs.length := List.length_pos_iff.mpr zne
          refine ⟨.ref S, rfl, .inl ⟨rfl, _, SqL.of eSb⟩, .ref p, rfl, p, 3, _, rfl, jb.hand, by omega, by decide, by decide, fun Hc dc uc hc d0 d1 => ⟨1, dc, rfl, rfl, _, rfl, by omega, by omega, fun D5 nD5 => ?_⟩⟩
          have jc := jb.upto xb uc hc
          have eSc : Hc S = some (.lst xs) := uc S _ S3 eSb
          obtain ⟨b1, b2, b3, b4⟩ := jc.ne nD5
          have SD : S ≠ D5 := ne_of_none eSc nD5
          have Dp : D ≠ p := D3
          refine lc_range (lo := 0) (n := (1 + dc).toNat) (fun k Hd => ∃ os : List Str, Hd D5 = some (.lst (os.map V.str)) ∧ os.length = k ∧ (∀ z ∈ os, z ∈ zs) ∧ Js Wb tb t2 p (m + 10 * i + 1 + k) Hd ∧ Hd S = some (.lst xs)) ?_ ?_ ?_
          · exact ⟨[], upd_same, rfl, (fun _ c => nomatch c), jc.new nD5, (upd_ne SD).trans eSc⟩
          · rintro k Hd hk ⟨os, e5, ol, oz, jd, eSd⟩
            refine ⟨rfl, lc_yes ⟨.ref p, rfl, .ref D, rfl, p, D, _, _, rfl, jd.hand, by omega, Dp, jd.sub _ _ (wb _ _ eD), by rw [List.length_map]; omega, by rw [List.length_map]; omega, fun He v ue he mv => ?_⟩⟩
            obtain ⟨z, mz, rfl⟩ := List.mem_map.mp mv
            refine ⟨_, ue D5 _ b3 e5, ?_, os ++ [z], ?_, ?_, ?_, ((jd.upto xb ue he).put b4 b1 b2 b3).mono (by omega), (upd_ne SD).trans (ue S _ S3 eSd)⟩
            · rw [List.length_map]
              exact small1000 (by omega)
            · rw [upd_same, List.map_append]
              rfl
            · rw [List.length_append, ol]
              rfl
            · intro y my
              rcases List.mem_append.mp my with y1 | y1
              · exact oz y y1
              · rw [List.mem_singleton.mp y1]
                exact mz
          · rintro Hd ⟨os, e5, ol, oz, jd, eSd⟩
            refine ⟨D5, _, rfl, .inl ⟨SqL.of e5, fun t5 n5 => ?_⟩⟩
            obtain ⟨c1, c2, c3, c4⟩ := jd.ne n5
            have je := jd.grow (o := .tup (os.map V.str)) n5
            have xe := xb.grow (o := .tup (os.map V.str)) c1 c2 c3
            have we := wb.trans (same_upd (o := .tup (os.map V.str)) c4)
            have St5 : S ≠ t5 := ne_of_none eSd n5
            have eSe := same_upd (o := .tup (os.map V.str)) n5 _ _ eSd
            have Se : (upd Wb t5 (.tup (os.map V.str))) S = none := (upd_ne St5).trans Sb
            have le : Lots (upd Wb t5 (.tup (os.map V.str))) zs (xs ++ [V.ref t5]) := fun v mv => by
              rcases List.mem_append.mp mv with z | z
              · exact (lb.more (same_upd c4)) v z
              · rw [List.mem_singleton.mp z]
                exact ⟨t5, os, rfl, upd_same, by omega, oz⟩
            generalize upd Hd t5 (.tup (os.map V.str)) = He at je eSe ⊢
            generalize upd Wb t5 (.tup (os.map V.str)) = We at je xe we Se le
            refine ⟨S, _, _, rfl, rfl, eSe, small1000 (by omega), ?_⟩
            refine ⟨_, _, _, _, _, _, _, _, _, We, xs ++ [V.ref t5], rfl, (je.put Se S1 S2 S3).mono (by omega), xe, we, Se, upd_same, le, ?_⟩
            rw [List.length_append]
            show xs.length + 1 ≤ _
            omega
        · rintro σ Hb ⟨y4, y5, y7, y8, y9, y10, y11, y12, y13, Wb, xs, rfl, jb, xb, wb, Sb, eSb, lb, xl⟩
          -- all of them
          refine ⟨.ref S, rfl, S, rfl, ⟨_, SqL.of eSb⟩, fun D6 nD6 => ?_⟩
          obtain ⟨b1, b2, b3, b4⟩ := jb.ne nD6
          have SD : S ≠ D6 := ne_of_none eSb nD6
          refine lc_list (K := K) (a := S) (xs := xs) (fun k Hc => Hc D6 = some (.lst (List.replicate k (V.bl true))) ∧ Js Wb tb t2 p (m + 10 * N.toNat) Hc ∧ Hc S = some (.lst xs)) ?_ ?_ ?_ ?_
          · exact ⟨upd_same, jb.new nD6, (upd_ne SD).trans eSb⟩
          · rintro k Hc _ ⟨_, _, e⟩
            exact SqL.of e
          · rintro k v Hc hv ⟨e6, jc, eSc⟩
            obtain ⟨n, ns, rfl, en, nl, nin⟩ := lb v (List.mem_of_getElem? hv)
            refine ⟨rfl, lc_yes ⟨.ref t, rfl, .ref d, rfl, .ref n, rfl, Wb, t, d, n, rows, zs, ns, es, rfl, jc.sub, xb.o1, jc.tab, hp.more wb, rl, tx, od.keep wb, en, nl, nin, fun Hd kd => ?_⟩⟩
            refine ⟨_, kd.keep D6 _ b1 e6, ?_, ?_, (jc.tbk xb kd).put b4 b1 b2 b3, (upd_ne SD).trans (kd.keep S _ S1 eSc)⟩
            · rw [List.length_replicate]
              have := (List.getElem?_eq_some_iff.mp hv).1
              exact small1000 (by omega)
            · rw [upd_same, List.replicate_succ']
          · rintro Hc ⟨e6, jc, eSc⟩
            refine ⟨D6, _, rfl, SqL.of (by rw [reps]; exact e6), _, rfl, iffF ?_ ?_⟩
            · rw [all_reps]
              rfl
            · -- the lists
              have hpb := hp.more wb
              refine ⟨by show 9 ≤ sizeLine; decide, fun d9 nd9 => ⟨d9, rfl, ⟨_, SqT.of upd_same⟩, ?_⟩⟩
              obtain ⟨c1, c2, c3, c4⟩ := jc.ne nd9
              refine for_tup (K := K) (a := d9) (xs := docs8 ++ [V.str "none"]) (fun i σ Hd => ∃ y4 y5 y7 y8 y9 y10 y11 y12 y13, σ = [some (.ref p), some (.ref t), some (.ref d), some (.ref D), y4, y5, some (.ref S), y7, y8, y9, y10, y11, y12, y13] ∧ Js Wb tb t2 p (m + 10 * N.toNat) Hd ∧ Hd d9 = some (.tup (docs8 ++ [V.str "none"]))) ?_ ?_ ?_ ?_
              · exact ⟨_, _, _, _, _, _, _, _, _, rfl, jc.new nd9, upd_same⟩
              · rintro i σ Hd _ ⟨_, _, _, _, _, _, _, _, _, _, _, e⟩
                exact SqT.of e
              · rintro i v σ Hd hv ⟨y4, y5, y7, y8, y9, y10, y11, y12, y13, rfl, jd, e9⟩
                have fv : flatV v = true := by
                  have mv := List.mem_of_getElem? hv
                  rcases List.mem_append.mp mv with z | z
                  · obtain ⟨s, rfl, _⟩ := docs_short z
                    rfl
                  · rw [List.mem_singleton.mp z]
                    rfl
                have lsub : (listL rows v).Sublist (rows.map fun r => r.2.1) := (List.filter_sublist).map _
                have llen : (listL rows v).length ≤ 200 := by
                  have := lsub.length_le
                  rw [List.length_map] at this
                  omega
                obtain ⟨dl2, hdl2, gdl2⟩ := names_good (K := K) (listL rows v) (fun u mu => by
                  obtain ⟨r, mr, rfl⟩ := List.mem_map.mp (lsub.subset mu)
                  obtain ⟨z, mz, e⟩ := tx.str mr
                  exact ⟨z, e, tx.inn z mz⟩) llen
                refine ⟨.ref t, rfl, t, rfl, ⟨_, SqT.of (jd.sub _ _ hpb.at_)⟩, fun D7 nD7 => ?_⟩
                refine lc_tup (K := K) (a := t) (xs := rows.map fun r => V.ref r.1) (fun k He => He = upd Hd D7 (.lst (listL (rows.take k) v))) rfl ?_ ?_ ?_
                · rintro k He _ rfl
                  exact SqT.of (same_upd nD7 _ _ (jd.sub _ _ hpb.at_))
                · rintro k u He hu2 rfl
                  rw [List.getElem?_map] at hu2
                  obtain ⟨r, hr1, rfl⟩ := Option.map_eq_some_iff.mp hu2
                  have mr := List.mem_of_getElem? hr1
                  have nx : listL (rows.take (k + 1)) v = if inV v r.2.2.2 = true then listL (rows.take k) v ++ [r.2.1] else listL (rows.take k) v := by
                    unfold listL
                    rw [List.take_add_one, hr1, List.filter_append, List.map_append]
                    cases hb : inV v r.2.2.2 with
                    | true =>
                      rw [if_pos rfl]
                      simp [hb]
                    | false =>
                      rw [if_neg Bool.false_ne_true]
                      simp [hb]
                  refine ⟨r.1, _, rfl, SqT.of (same_upd nD7 _ _ (jd.sub _ _ (hpb.row r mr))), rfl, _, _, rfl, _, _, rfl, rfl, ?_⟩
                  refine ⟨rfl, v, rfl, .ref r.2.2.1, rfl, r.2.2.1, _, rfl, .inr (SqT.of (same_upd nD7 _ _ (jd.sub _ _ (hpb.doc r mr)))), fv, (hpb.flat r mr).1, _, rfl, ?_⟩
                  rcases Bool.eq_false_or_eq_true (inV v r.2.2.2) with hb | hb
                  · rw [if_pos hb] at nx
                    refine iffT (by first | rfl | exact hb) ⟨r.2.1, rfl, _, upd_same, ?_, ?_⟩
                    · have : (listL (rows.take k) v).length ≤ rows.length := by
                        unfold listL
                        rw [List.length_map]
                        refine Nat.le_trans (List.length_filter_le _ _) ?_
                        rw [List.length_take]
                        omega
                      exact small1000 (by omega)
                    · rw [upd_upd, nx]
                  · rw [if_neg (by rw [hb]; exact Bool.false_ne_true)] at nx
                    refine iffF (by first | rfl | exact hb) ?_
                    rw [nx]
                · rintro He rfl
                  rw [List.length_map, List.take_length]
                  have jf := jd.new (o := .lst (listL rows v)) nD7
                  have e9f := same_upd (o := .lst (listL rows v)) nD7 _ _ e9
                  refine ⟨D7, _, rfl, .inl ⟨SqL.of upd_same, fun t7 n7 => ?_⟩⟩
                  have jg := jf.new (o := .tup (listL rows v)) n7
                  have e9g := same_upd (o := .tup (listL rows v)) n7 _ _ e9f
                  have et7 : (upd (upd Hd D7 (.lst (listL rows v))) t7 (.tup (listL rows v))) t7 = some (.tup (listL rows v)) := upd_same
                  generalize upd (upd Hd D7 (.lst (listL rows v))) t7 (.tup (listL rows v)) = Hg at jg e9g et7 ⊢
                  refine ⟨.ref t, rfl, v, rfl, .ref t, v, rows, rfl, jg.tab2, (hpb.more jg.sub).rows, fv, fun Hh kh l nl => ?_⟩
                  have jh := jg.tbd xb kh
                  have t7t : t7 ≠ t2 := by
                    rintro rfl
                    obtain ⟨ps, z, _⟩ := jg.tab2
                    rw [z] at et7
                    cases et7
                  have et7h := (kh.2 t7 t7t).trans et7
                  have e9h := (kh.2 d9 c2).trans e9g
                  have ji := jh.new (o := .tup (listL rows v)) nl
                  have e9i := same_upd (o := .tup (listL rows v)) nl _ _ e9h
                  refine ⟨_, dl2, rfl, hdl2 _ _ upd_same, gdl2.shw, .ref t7, rfl, _, dl2, rfl, hdl2 _ _ (same_upd nl _ _ et7h), gdl2.shw, rfl, _, rfl, iffF (ne_self _) ?_⟩
                  exact ⟨_, _, _, _, _, _, _, _, _, rfl, ji, e9i⟩
              · rintro σ Hd ⟨_, _, _, _, _, _, _, _, _, rfl, jd, _⟩
                exact q Hd (fun b o a1 a2 a3 e => jd.sub b o (wb b o (keep b o a1 a2 a3 e))) jd.tab jd.tab2 (jd.hand.mono (by omega))
end
end Cu

namespace Cu
open PySem PySem.Spec PyProof.Rows L2
abbrev sLaw : Stmt := topS 16
abbrev nLaw : List Str := ["_law_script", "_law_k", "_law_hand_here", "_law_turn", "_law_count"]
theorem scLaw : FnScope nLaw ["_law_script"] (defScope sLaw) := ⟨rfl, rfl, rfl, by decide +kernel, rfl, by decide +kernel, by decide +kernel⟩
section
variable {P : Program} {w : World} {K : PySem.W.Frag} {mg : Str → Option Value} {base : Heap}
def spLaw (K : PySem.W.Frag) (tb t2 : Addr) : Sp := fun vs H Q _ => ∃ (a : Addr) (ns : List Int), vs = [.ref a] ∧ SqL K H a (ns.map V.int) ∧ ns.length ≤ 63 ∧ t2 ≠ tb ∧ GxR.TabG H tb ∧ GxR.TabG H t2 ∧ ∀ H', Q (.bl true) H'
theorem ok_law {f fH fT fO fHp fRt tb t2 : Addr} {fd fdH fdT fdO fdHp fdRt : FuncData} (F : Fun K "law" "law" sLaw f fd)
    (DH : Df K mg "_law_hand" sHand ["_law_script", "_law_k"] fH fdH) (DT : Df K mg "_law_take" sTake ["_law_hand_here", "_law_many"] fT fdT) (DO : Df K mg "_law_of" sOf ["_law_hand_here", "_law_some"] fO fdO)
    (DHp : Df K mg "_law_heap" sHeap ["_law_hand_here", "_law_count", "_law_width"] fHp fdHp) (DRt : Df K mg "_law_right" sRt ["_law_hand_here", "_law_heap_here"] fRt fdRt)
    (GHp : FnOk P w K mg base CX0 3 fHp fdHp ["_law_hand_here", "_law_count", "_law_width"] spHeap) (GRt : FnG P w K mg base CX0 5 fRt fdRt ["_law_hand_here", "_law_heap_here"] (spRt tb t2)) (T : Bl mg) :
    FnG P w K mg base CX0 6 f fd ["_law_script"] (spLaw K tb t2) := by
  have GH : FnOk P w K mg base CX0 1 fH fdH _ (spHand K) := ok_hand DH.F T
  have GT : FnOk P w K mg base CX0 1 fT fdT _ spTake := ok_take DT.F T
  have GL : FnOk P w K mg base CX0 2 fO fdO _ spOfL := ok_ofL DO.F DT T
  refine okG F scLaw (fun vs H Q E h => ?_) (fun cdv A outer s H vs Q E gd hr h => ?_)
  · obtain ⟨a, ns, rfl, _⟩ := h
    rfl
  · obtain ⟨a, ns, rfl, hS, hl, ne, tab, tab2, q⟩ := h
    refine ⟨_, (pss_cons (ps_for PassesOwn.never rfl (pi_range1 (by rfl) T.range (pa_cons (pe_callB (call_max2 rfl) (by rfl) T.max (by decide +kernel) (pa_cons pe_int (pa_cons (pe_callB (call_min2 rfl) (by rfl) T.min (by decide +kernel) (pa_cons pe_int (pa_cons (pe_callB call_len_seq (by rfl) T.len PySem.boot_len (pa_cons (pv 0) pa_nil)) pa_nil))) pa_nil))) pa_nil)) (pg_name (i := 1) scLaw.nd rfl (.inl rfl))
  (pss_cons (ps_set (i := 2) scLaw.nd rfl (.inl rfl) (pe_call GH (hr.mono (by decide)) (by rfl) DH.g DH.F.kp DH.b .nil pass0 (pa_cons (pv 0) (pa_cons (pv 1) pa_nil))))
  (pss_one (ps_for PassesOwn.never rfl (pi_range1 (by rfl) T.range (pa_cons pe_int pa_nil)) (pg_name (i := 3) scLaw.nd rfl (.inl rfl))
  (pss_cons (ps_set (i := 4) scLaw.nd rfl (.inl rfl) (pe_call GL (hr.mono (by decide)) (by rfl) DO.g DO.F.kp DO.b .nil pass0 (pa_cons (pv 2) (pa_cons (pe_lst (pa_cons pe_int (pa_cons pe_int (pa_cons pe_int (pa_cons pe_int (pa_cons pe_int (pa_cons pe_int (pa_cons pe_int (pa_cons pe_int pa_nil))))))))) pa_nil))))
  (pss_cons (ps_if (pt_cmpR op_eq (pe_call GT (hr.mono (by decide)) (by rfl) DT.g DT.F.kp DT.b .nil pass0 (pa_cons (pv 2) (pa_cons pe_int pa_nil))) pe_int (nomark _))
  (pss_one (ps_set (i := 4) scLaw.nd rfl (.inl rfl) pe_int))
  pss_nil)
  (pss_one (ps_if (pt_not (pt_val (pe_callG GRt gd (hr.mono (by decide)) (by rfl) DRt.g DRt.F.kp DRt.b .nil pass0 (pa_cons (pv 2) (pa_cons (pe_call GHp (hr.mono (by decide)) (by rfl) DHp.g DHp.F.kp DHp.b .nil pass0 (pa_cons (pv 2) (pa_cons (pv 4) (pa_cons (pe_op op_add pe_int (pe_call GT (hr.mono (by decide)) (by rfl) DT.g DT.F.kp DT.b .nil pass0 (pa_cons (pv 2) (pa_cons pe_int pa_nil)))) pa_nil)))) pa_nil)))))
  (pss_one (ps_ret pe_bl))
  pss_nil))))))))
  (pss_one (ps_ret pe_bl))), ?_⟩
    refine ⟨.ref a, rfl, a, _, rfl, .inl hS, 3, _, rfl, 1, _, rfl, ?_⟩
    rw [List.length_map]
    have hN : (if (if (ns.length : Int) < 3 then (ns.length : Int) else 3) > 1 then (if (ns.length : Int) < 3 then (ns.length : Int) else 3) else 1) ≤ 3 ∧ 0 ≤ (if (if (ns.length : Int) < 3 then (ns.length : Int) else 3) > 1 then (if (ns.length : Int) < 3 then (ns.length : Int) else 3) else 1) := by
      constructor <;> (split <;> (try split) <;> omega)
    generalize (if (if (ns.length : Int) < 3 then (ns.length : Int) else 3) > 1 then (if (ns.length : Int) < 3 then (ns.length : Int) else 3) else 1) = N at hN
    refine ⟨N, rfl, by omega, by omega, ?_⟩
    refine for_range (lo := 0) (n := N.toNat) (fun i σ H1 => ∃ y1 y2 y3 y4, σ = [some (.ref a), y1, y2, y3, y4] ∧ Tb2 tb t2 H H1) ?_ ?_ ?_
    · exact ⟨_, _, _, _, rfl, .refl tab tab2⟩
    · rintro i σ H1 hi ⟨y1, y2, y3, y4, rfl, k1⟩
      refine ⟨.ref a, rfl, .int (0 + (i : Nat)), rfl, a, _, ns, rfl, seq_keep k1 tab tab2 hS, by omega, by omega, fun H2 p s2 np h2 => ?_⟩
      have k2 := k1.sm s2
      have hp0 : H p = none := k1.free np
      have n1 := hand_ne h2 k2.tab
      have n2 := hand_ne h2 k2.tab2
      refine ⟨4, rfl, by decide, by decide, ?_⟩
      refine for_range (lo := 0) (n := 4) (fun j σ H3 => ∃ y3 y4, σ = [some (.ref a), some (.int (0 + (i : Nat))), some (.ref p), y3, y4] ∧ Tb2 tb t2 H H3 ∧ Hand H3 p (10000 * j)) ?_ ?_ ?_
      · exact ⟨_, _, rfl, k2, h2⟩
      · rintro j σ H3 hj ⟨z3, z4, rfl, k3, h3⟩
        refine ⟨.ref p, rfl, by show 8 ≤ sizeLine; decide, fun l8 n8 => ?_⟩
        have h3' := h3.new (o := .lst [V.int 0, .int 1, .int 2, .int 4, .int 7, .int 10, .int 14, .int 14]) n8
        have k3' : Tb2 tb t2 H _ := k3.trans (.new (o := .lst [V.int 0, .int 1, .int 2, .int 4, .int 7, .int 10, .int 14, .int 14]) k3.tab k3.tab2 n8)
        refine ⟨p, l8, _, _, rfl, h3', by omega, Hand.ne h3.some n8, upd_same, (by show 0 < 8; decide), (by show 8 ≤ 1000; decide), fun H4 v u4 h4 mv => ?_⟩
        obtain ⟨c, rfl, c14⟩ : ∃ c : Nat, v = .int (c : Int) ∧ c ≤ 14 := by
          simp only [List.mem_cons, List.not_mem_nil, or_false] at mv
          rcases mv with rfl | rfl | rfl | rfl | rfl | rfl | rfl | rfl
          · exact ⟨0, rfl, by decide⟩
          · exact ⟨1, rfl, by decide⟩
          · exact ⟨2, rfl, by decide⟩
          · exact ⟨4, rfl, by decide⟩
          · exact ⟨7, rfl, by decide⟩
          · exact ⟨10, rfl, by decide⟩
          · exact ⟨14, rfl, by decide⟩
          · exact ⟨14, rfl, by decide⟩
        have k4 := k3'.upto u4 hp0 n1 n2
        refine ⟨.ref p, rfl, p, 8, _, rfl, h4, by omega, by decide, by decide, fun H5 e u5 h5 e0 e1 => ⟨rfl, _, rfl, ?_⟩⟩
        have k5 := k4.upto u5 hp0 n1 n2
        -- the count
        rcases Bool.eq_false_or_eq_true (decide (V.int e = V.int 0)) with hb | hb
        case' inl =>
          refine iffT hb ?_
          obtain ⟨cc, ec, c40⟩ : ∃ cc : Nat, (40 : Int) = (cc : Int) ∧ cc ≤ 40 := ⟨40, rfl, by decide⟩
        case' inr =>
          refine iffF hb ?_
          obtain ⟨cc, ec, c40⟩ : ∃ cc : Nat, (c : Int) = (cc : Int) ∧ cc ≤ 40 := ⟨c, rfl, by omega⟩
        all_goals
          (refine ⟨.ref p, rfl, .ref p, rfl, _, rfl, .ref p, rfl, p, 8, _, rfl, h5, by omega, by decide, by decide, fun H6 d u6 h6 d0 d1 => ⟨_, _, rfl, rfl, ?_⟩⟩
           have k6 := k5.upto u6 hp0 n1 n2
           obtain ⟨wd, rfl⟩ := Int.eq_ofNat_of_zero_le d0
           refine ⟨p, cc, 1 + wd, _, hid H6 tb t2 p, ?_, h6, by omega, by omega, by omega, by omega, hid_same _ _ _ _, hid3 _ _ _ _, fun F7 H7 t rows zs mk h7 hp rlen nms nd inn sub => ?_⟩
           · rw [Int.natCast_add, ← ec]
             rfl
           · have k7 := k6.upto mk.upto hp0 n1 n2
             obtain ⟨o1, eo1⟩ : ∃ o, H6 tb = some o := by obtain ⟨ps, e, _⟩ := k6.tab; exact ⟨_, e⟩
             obtain ⟨o2, eo2⟩ : ∃ o, H6 t2 = some o := by obtain ⟨ps, e, _⟩ := k6.tab2; exact ⟨_, e⟩
             have x : Out F7 tb t2 p := ⟨mk.fresh tb _ eo1 (hid1 _ _ _ _), mk.fresh t2 _ eo2 (hid2 _ _ _ _), mk.fa h6.some (hid3 _ _ _ _), ne, n1, n2⟩
             refine ⟨F7, p, t, _, rows, zs, rfl, x, ⟨mk.sub, k7.tab, k7.tab2, h7⟩, by omega, hp, by omega, ⟨nms, nd, sub, inn⟩, fun H8 keep t8 t8' h8 => ⟨_, rfl, iffF rfl ?_⟩⟩
             have k8 : Tb2 tb t2 H H8 := ⟨fun b o a1 a2 eb => keep b o a1 a2 (ne_of_none eb hp0) (k7.keep b o a1 a2 eb), t8, t8'⟩
             exact ⟨_, _, rfl, k8, h8.mono (by omega)⟩)
      · rintro σ H3 ⟨_, _, rfl, k, _⟩
        exact ⟨_, _, _, _, rfl, k⟩
    · rintro σ H1 ⟨_, _, _, _, _, _⟩
      exact q _
end
end Cu

namespace Cu
open PySem PySem.Spec PyProof.Rows L2
theorem all_mk {w : World} {K : PySem.W.Frag} {h : Heap} {mg : Str → Option Value} {fa fU fW fR fS fB fJ fH fT fO fZ fY fV fQ fM fL : Addr} {q : Program} {loose : List Str} {mean : ExcName → Option Value} {mb : Str → Option Value} {cS0 pS cJ0 pJ : Addr} {dS0 dJ0 : DefRec} {oxS oxJ : Value} {oyS oyJ : Option Addr} {szS szJ : Array (Option Value)} {vsS vsJ : Array Value} (TT : Top q loose mean mg mb h) (X : K.In h) (G : h.Ns mainGlobals mg) (hfa : mg "law" = some (.ref fa))
    {odU anU odW anW odR anR odS anS odB anB odJ anJ odH anH odT anT odO anO odZ anZ odY anY odV anV odQ anQ odM anM odL anL : Option Addr} {slU slW slR slS slB slJ slH slT slO slZ slY slV slQ slM slL : Array (Option Value)} {ocU kVU dcU pmU ctU cdU ocW kVW dcW pmW ctW cdW ocR kVR dcR pmR ctR cdR ocS kVS dcS pmS ctS ocB kVB dcB pmB ctB cdB ocJ kVJ dcJ pmJ ctJ ocH kVH dcH pmH ctH cdH ocT kVT dcT pmT ctT cdT ocO kVO dcO pmO ctO cdO ocZ kVZ dcZ pmZ ctZ cdZ ocY kVY dcY pmY ctY cdY ocV kVV dcV pmV ctV cdV ocQ kVQ dcQ pmQ ctQ cdQ ocM kVM dcM pmM ctM cdM ocL kVL dcL pmL ctL cdL : Value}
    (aU : PySem.W.nsIn K mainGlobals "up" = some (some (.ref fU))) (lU : K.lookup fU = some ⟨ocU, odU, .func (PySem.W.fnOf "up" "up" (defArgs sUp) (defBody sUp) (defScope sUp) .none kVU dcU pmU anU cdU ctU), slU⟩)
    (cU : PySem.W.codeIn K cdU "up" = true) (kU : PySem.W.keepIn K (.ref fU) = true)
    (aW : PySem.W.nsIn K mainGlobals "down" = some (some (.ref fW))) (lW : K.lookup fW = some ⟨ocW, odW, .func (PySem.W.fnOf "down" "down" (defArgs sDown) (defBody sDown) (defScope sDown) .none kVW dcW pmW anW cdW ctW), slW⟩)
    (cW : PySem.W.codeIn K cdW "down" = true) (kW : PySem.W.keepIn K (.ref fW) = true)
    (aR : PySem.W.nsIn K mainGlobals "reach" = some (some (.ref fR))) (lR : K.lookup fR = some ⟨ocR, odR, .func (PySem.W.fnOf "reach" "reach" (defArgs sReach) (defBody sReach) (defScope sReach) .none kVR dcR pmR anR cdR ctR), slR⟩)
    (cR : PySem.W.codeIn K cdR "reach" = true) (kR : PySem.W.keepIn K (.ref fR) = true)
    (aS : PySem.W.nsIn K mainGlobals "share" = some (some (.ref fS))) (lS : K.lookup fS = some ⟨ocS, odS, .func (PySem.W.fnOf "share" "share" (defArgs sShare) (defBody sShare) (defScope sShare) .none kVS dcS pmS anS (.ref cS0) ctS), slS⟩)
    (cS : PySem.W.codeIn K (.ref cS0) "share" = true) (kS : PySem.W.keepIn K (.ref fS) = true)
    (aB : PySem.W.nsIn K mainGlobals "is_below" = some (some (.ref fB))) (lB : K.lookup fB = some ⟨ocB, odB, .func (PySem.W.fnOf "is_below" "is_below" (defArgs sBelow) (defBody sBelow) (defScope sBelow) .none kVB dcB pmB anB cdB ctB), slB⟩)
    (cB : PySem.W.codeIn K cdB "is_below" = true) (kB : PySem.W.keepIn K (.ref fB) = true)
    (aJ : PySem.W.nsIn K mainGlobals "list_of" = some (some (.ref fJ))) (lJ : K.lookup fJ = some ⟨ocJ, odJ, .func (PySem.W.fnOf "list_of" "list_of" (defArgs sListOf) (defBody sListOf) (defScope sListOf) .none kVJ dcJ pmJ anJ (.ref cJ0) ctJ), slJ⟩)
    (cJ : PySem.W.codeIn K (.ref cJ0) "list_of" = true) (kJ : PySem.W.keepIn K (.ref fJ) = true)
    (aH : PySem.W.nsIn K mainGlobals "_law_hand" = some (some (.ref fH))) (lH : K.lookup fH = some ⟨ocH, odH, .func (PySem.W.fnOf "_law_hand" "_law_hand" (defArgs sHand) (defBody sHand) (defScope sHand) .none kVH dcH pmH anH cdH ctH), slH⟩)
    (cH : PySem.W.codeIn K cdH "_law_hand" = true) (kH : PySem.W.keepIn K (.ref fH) = true)
    (aT : PySem.W.nsIn K mainGlobals "_law_take" = some (some (.ref fT))) (lT : K.lookup fT = some ⟨ocT, odT, .func (PySem.W.fnOf "_law_take" "_law_take" (defArgs sTake) (defBody sTake) (defScope sTake) .none kVT dcT pmT anT cdT ctT), slT⟩)
    (cT : PySem.W.codeIn K cdT "_law_take" = true) (kT : PySem.W.keepIn K (.ref fT) = true)
    (aO : PySem.W.nsIn K mainGlobals "_law_of" = some (some (.ref fO))) (lO : K.lookup fO = some ⟨ocO, odO, .func (PySem.W.fnOf "_law_of" "_law_of" (defArgs sOf) (defBody sOf) (defScope sOf) .none kVO dcO pmO anO cdO ctO), slO⟩)
    (cO : PySem.W.codeIn K cdO "_law_of" = true) (kO : PySem.W.keepIn K (.ref fO) = true)
    (aZ : PySem.W.nsIn K mainGlobals "_law_subset" = some (some (.ref fZ))) (lZ : K.lookup fZ = some ⟨ocZ, odZ, .func (PySem.W.fnOf "_law_subset" "_law_subset" (defArgs sSub) (defBody sSub) (defScope sSub) .none kVZ dcZ pmZ anZ cdZ ctZ), slZ⟩)
    (cZ : PySem.W.codeIn K cdZ "_law_subset" = true) (kZ : PySem.W.keepIn K (.ref fZ) = true)
    (aY : PySem.W.nsIn K mainGlobals "_law_heap" = some (some (.ref fY))) (lY : K.lookup fY = some ⟨ocY, odY, .func (PySem.W.fnOf "_law_heap" "_law_heap" (defArgs sHeap) (defBody sHeap) (defScope sHeap) .none kVY dcY pmY anY cdY ctY), slY⟩)
    (cY : PySem.W.codeIn K cdY "_law_heap" = true) (kY : PySem.W.keepIn K (.ref fY) = true)
    (aV : PySem.W.nsIn K mainGlobals "_law_order" = some (some (.ref fV))) (lV : K.lookup fV = some ⟨ocV, odV, .func (PySem.W.fnOf "_law_order" "_law_order" (defArgs sOr) (defBody sOr) (defScope sOr) .none kVV dcV pmV anV cdV ctV), slV⟩)
    (cV : PySem.W.codeIn K cdV "_law_order" = true) (kV : PySem.W.keepIn K (.ref fV) = true)
    (aQ : PySem.W.nsIn K mainGlobals "_law_sets_right" = some (some (.ref fQ))) (lQ : K.lookup fQ = some ⟨ocQ, odQ, .func (PySem.W.fnOf "_law_sets_right" "_law_sets_right" (defArgs sSt) (defBody sSt) (defScope sSt) .none kVQ dcQ pmQ anQ cdQ ctQ), slQ⟩)
    (cQ : PySem.W.codeIn K cdQ "_law_sets_right" = true) (kQ : PySem.W.keepIn K (.ref fQ) = true)
    (aM : PySem.W.nsIn K mainGlobals "_law_right" = some (some (.ref fM))) (lM : K.lookup fM = some ⟨ocM, odM, .func (PySem.W.fnOf "_law_right" "_law_right" (defArgs sRt) (defBody sRt) (defScope sRt) .none kVM dcM pmM anM cdM ctM), slM⟩)
    (cM : PySem.W.codeIn K cdM "_law_right" = true) (kM : PySem.W.keepIn K (.ref fM) = true)
    (aL : PySem.W.nsIn K mainGlobals "law" = some (some (.ref fL))) (lL : K.lookup fL = some ⟨ocL, odL, .func (PySem.W.fnOf "law" "law" (defArgs sLaw) (defBody sLaw) (defScope sLaw) .none kVL dcL pmL anL cdL ctL), slL⟩)
    (cL : PySem.W.codeIn K cdL "law" = true) (kL : PySem.W.keepIn K (.ref fL) = true)
    (z_len : PySem.W.nsIn K mainGlobals "len" = some none)
    (z_abs : PySem.W.nsIn K mainGlobals "abs" = some none)
    (z_int : PySem.W.nsIn K mainGlobals "int" = some none)
    (z_range : PySem.W.nsIn K mainGlobals "range" = some none)
    (z_max : PySem.W.nsIn K mainGlobals "max" = some none)
    (z_min : PySem.W.nsIn K mainGlobals "min" = some none)
    (z_all : PySem.W.nsIn K mainGlobals "all" = some none)
    (z_any : PySem.W.nsIn K mainGlobals "any" = some none)
    (z_tuple : PySem.W.nsIn K mainGlobals "tuple" = some none)
    (z_list : PySem.W.nsIn K mainGlobals "list" = some none)
    (z_enumerate : PySem.W.nsIn K mainGlobals "enumerate" = some none)
    (z_set : PySem.W.nsIn K mainGlobals "set" = some none)
    (z_sorted : PySem.W.nsIn K mainGlobals "sorted" = some none)
    (z_repr : PySem.W.nsIn K mainGlobals "repr" = some none)
    (rS : (recsOf q).find? (fun e => e.name == ("share" : Str)) = some dS0) (tlS : K.lookup cS0 = some ⟨oxS, oyS, .fields vsS, szS⟩) (pvS : vsS[11]? = some (.ref pS))
    (rJ : (recsOf q).find? (fun e => e.name == ("list_of" : Str)) = some dJ0) (tlJ : K.lookup cJ0 = some ⟨oxJ, oyJ, .fields vsJ, szJ⟩) (pvJ : vsJ[11]? = some (.ref pJ))
    (nt : PySem.W.noTabs K = true) (np_ : decide (pS = pJ) = false) : LawG PySem.Challenge.rw_crossundo_k07_actions_above_and_below w K 6 63 "_law_script" mg fa h := by
  have e := hfa.symm.trans (PySem.W.mg_of X G aL)
  cases e
  have T : Bl mg := { len := PySem.W.mg_none_of X G z_len, abs := PySem.W.mg_none_of X G z_abs, int := PySem.W.mg_none_of X G z_int, range := PySem.W.mg_none_of X G z_range, max := PySem.W.mg_none_of X G z_max, min := PySem.W.mg_none_of X G z_min, all := PySem.W.mg_none_of X G z_all, any := PySem.W.mg_none_of X G z_any, tuple := PySem.W.mg_none_of X G z_tuple, list := PySem.W.mg_none_of X G z_list, enumerate := PySem.W.mg_none_of X G z_enumerate, set := PySem.W.mg_none_of X G z_set, sorted := PySem.W.mg_none_of X G z_sorted, repr := PySem.W.mg_none_of X G z_repr }
  have tabS := tabIn_of aS lS rfl tlS pvS
  have hd_S := PySem.W.tab_of TT X rS tabS
  have tabJ := tabIn_of aJ lJ rfl tlJ pvJ
  have hd_J := PySem.W.tab_of TT X rJ tabJ
  have np : pS ≠ pJ := of_decide_eq_false np_
  have FU := fun_mk (st := sUp) lU cU kU
  have DU : Df K mg "up" sUp ["heap", "names"] fU _ := ⟨FU, PySem.W.mg_of X G aU, FU.binds (ps := ["heap", "names"]) fun _ _ _ _ _ _ us hl => match us, hl with | [_, _], _ => rfl⟩
  have FW := fun_mk (st := sDown) lW cW kW
  have DW : Df K mg "down" sDown ["heap", "names"] fW _ := ⟨FW, PySem.W.mg_of X G aW, FW.binds (ps := ["heap", "names"]) fun _ _ _ _ _ _ us hl => match us, hl with | [_, _], _ => rfl⟩
  have FR := fun_mk (st := sReach) lR cR kR
  have DR : Df K mg "reach" sReach ["actions", "names"] fR _ := ⟨FR, PySem.W.mg_of X G aR, FR.binds (ps := ["actions", "names"]) fun _ _ _ _ _ _ us hl => match us, hl with | [_, _], _ => rfl⟩
  have FS := fun_mk (st := sShare) lS cS kS
  have DS : Df K mg "share" sShare ["documents", "others"] fS _ := ⟨FS, PySem.W.mg_of X G aS, FS.binds (ps := ["documents", "others"]) fun _ _ _ _ _ _ us hl => match us, hl with | [_, _], _ => rfl⟩
  have FB := fun_mk (st := sBelow) lB cB kB
  have DB : Df K mg "is_below" sBelow ["heap", "name", "other"] fB _ := ⟨FB, PySem.W.mg_of X G aB, FB.binds (ps := ["heap", "name", "other"]) fun _ _ _ _ _ _ us hl => match us, hl with | [_, _, _], _ => rfl⟩
  have FJ := fun_mk (st := sListOf) lJ cJ kJ
  have DJ : Df K mg "list_of" sListOf ["heap", "document"] fJ _ := ⟨FJ, PySem.W.mg_of X G aJ, FJ.binds (ps := ["heap", "document"]) fun _ _ _ _ _ _ us hl => match us, hl with | [_, _], _ => rfl⟩
  have FH := fun_mk (st := sHand) lH cH kH
  have DH : Df K mg "_law_hand" sHand ["_law_script", "_law_k"] fH _ := ⟨FH, PySem.W.mg_of X G aH, FH.binds (ps := ["_law_script", "_law_k"]) fun _ _ _ _ _ _ us hl => match us, hl with | [_, _], _ => rfl⟩
  have FT := fun_mk (st := sTake) lT cT kT
  have DT : Df K mg "_law_take" sTake ["_law_hand_here", "_law_many"] fT _ := ⟨FT, PySem.W.mg_of X G aT, FT.binds (ps := ["_law_hand_here", "_law_many"]) fun _ _ _ _ _ _ us hl => match us, hl with | [_, _], _ => rfl⟩
  have FO := fun_mk (st := sOf) lO cO kO
  have DO : Df K mg "_law_of" sOf ["_law_hand_here", "_law_some"] fO _ := ⟨FO, PySem.W.mg_of X G aO, FO.binds (ps := ["_law_hand_here", "_law_some"]) fun _ _ _ _ _ _ us hl => match us, hl with | [_, _], _ => rfl⟩
  have FZ := fun_mk (st := sSub) lZ cZ kZ
  have DZ : Df K mg "_law_subset" sSub ["_law_hand_here", "_law_some", "_law_count"] fZ _ := ⟨FZ, PySem.W.mg_of X G aZ, FZ.binds (ps := ["_law_hand_here", "_law_some", "_law_count"]) fun _ _ _ _ _ _ us hl => match us, hl with | [_, _, _], _ => rfl⟩
  have FY := fun_mk (st := sHeap) lY cY kY
  have DY : Df K mg "_law_heap" sHeap ["_law_hand_here", "_law_count", "_law_width"] fY _ := ⟨FY, PySem.W.mg_of X G aY, FY.binds (ps := ["_law_hand_here", "_law_count", "_law_width"]) fun _ _ _ _ _ _ us hl => match us, hl with | [_, _, _], _ => rfl⟩
  have FV := fun_mk (st := sOr) lV cV kV
  have DV : Df K mg "_law_order" sOr ["_law_heap_here"] fV _ := ⟨FV, PySem.W.mg_of X G aV, FV.binds (ps := ["_law_heap_here"]) fun _ _ _ _ _ _ us hl => match us, hl with | [_], _ => rfl⟩
  have FQ := fun_mk (st := sSt) lQ cQ kQ
  have DQ : Df K mg "_law_sets_right" sSt ["_law_heap_here", "_law_order_here", "_law_names"] fQ _ := ⟨FQ, PySem.W.mg_of X G aQ, FQ.binds (ps := ["_law_heap_here", "_law_order_here", "_law_names"]) fun _ _ _ _ _ _ us hl => match us, hl with | [_, _, _], _ => rfl⟩
  have FM := fun_mk (st := sRt) lM cM kM
  have DM : Df K mg "_law_right" sRt ["_law_hand_here", "_law_heap_here"] fM _ := ⟨FM, PySem.W.mg_of X G aM, FM.binds (ps := ["_law_hand_here", "_law_heap_here"]) fun _ _ _ _ _ _ us hl => match us, hl with | [_, _], _ => rfl⟩
  have FL := fun_mk (st := sLaw) lL cL kL
  refine ⟨PySem.W.fnOf "law" "law" (defArgs sLaw) (defBody sLaw) (defScope sLaw) .none kVL dcL pmL anL cdL ctL, [(cS0, pS), (cJ0, pJ)], spLaw K pS pJ, tabsAt_of hd_S hd_J, tabsK_of (out_of_K X nt hd_S.2) (out_of_K X nt hd_J.2), tabsC_of hd_S hd_J, fun s v => .of_eq rfl, fun H a ns hl hT hS => ⟨a, ns, rfl, hS, hl, np.symm, ⟨#[], hT _ List.mem_cons_self, tri0⟩, ⟨#[], hT _ (List.mem_cons_of_mem _ List.mem_cons_self), tri0⟩, fun _ => rfl⟩, fun base _ _ TB sy => ?_⟩
  have tbS := TB _ List.mem_cons_self
  have tbJ := TB _ (List.mem_cons_of_mem _ List.mem_cons_self)
  have GS : FnOk PySem.Challenge.rw_crossundo_k07_actions_above_and_below.prog w K mg base CX0 1 _ _ _ (spShare K pS) := ok_share FS (code_of aS lS tabS) tbS T
  have GJ : FnOk PySem.Challenge.rw_crossundo_k07_actions_above_and_below.prog w K mg base CX0 1 _ _ _ (spList K pJ) := ok_listOf FJ (code_of aJ lJ tabJ) tbJ T
  have GR : FnOk PySem.Challenge.rw_crossundo_k07_actions_above_and_below.prog w K mg base CX0 2 _ _ _ (spReach pS) := ok_reach FR DS GS T
  have GU : FnOk PySem.Challenge.rw_crossundo_k07_actions_above_and_below.prog w K mg base CX0 3 _ _ _ (spUp pS reachL) := ok_up FU DR GR T
  have GW : FnOk PySem.Challenge.rw_crossundo_k07_actions_above_and_below.prog w K mg base CX0 3 _ _ _ (spUp pS downL) := ok_down FW DR GR T
  have GB : FnOk PySem.Challenge.rw_crossundo_k07_actions_above_and_below.prog w K mg base CX0 4 _ _ _ (spBelow pS) := ok_below FB DU GU T
  have GY : FnOk PySem.Challenge.rw_crossundo_k07_actions_above_and_below.prog w K mg base CX0 3 _ _ _ spHeap := ok_heap FY DT DO DZ T
  exact ok_law FL DH DT DO DY DM GY (ok_right FM DT DO DB DJ DV DQ GB GJ (ok_sets FQ DU DW GU GW T) T) T
end Cu
open PySem PySem.W PyProof.Rows
set_option maxRecDepth 100000 in
set_option maxHeartbeats 0 in
theorem PySem.Challenge.cw_crossundo_k07_actions_above_and_below_holds : PySem.Challenge.rw_crossundo_k07_actions_above_and_below.Holds := by
  w_on; o_law; k_head; (case hw => w_witness2)
  k_fill
  refine Cu.walkG (l := PySem.Challenge.rw_crossundo_k07_actions_above_and_below) (n := 63) (k := 6) (x := "_law_script") rfl (by decide) rfl ⟨rfl, by decide, by decide⟩ (fun w h Y => PySem.W.kIn_of Y) (by rfl) ?F
  case F =>
    intro w mg mb mean fa h TT Y KX G hmg
    refine' Cu.all_mk TT KX G hmg ?aU ?lU ?cU ?kU ?aW ?lW ?cW ?kW ?aR ?lR ?cR ?kR ?aS ?lS ?cS ?kS ?aB ?lB ?cB ?kB ?aJ ?lJ ?cJ ?kJ ?aH ?lH ?cH ?kH ?aT ?lT ?cT ?kT ?aO ?lO ?cO ?kO ?aZ ?lZ ?cZ ?kZ ?aY ?lY ?cY ?kY ?aV ?lV ?cV ?kV ?aQ ?lQ ?cQ ?kQ ?aM ?lM ?cM ?kM ?aL ?lL ?cL ?kL ?z_len ?z_abs ?z_int ?z_range ?z_max ?z_min ?z_all ?z_any ?z_tuple ?z_list ?z_enumerate ?z_set ?z_sorted ?z_repr ?rS ?tlS ?pvS ?rJ ?tlJ ?pvJ ?nt ?np_
    (case aU => k_is)
    (case lU => k_is)
    (case cU => k_is)
    (case kU => k_is)
    (case aW => k_is)
    (case lW => k_is)
    (case cW => k_is)
    (case kW => k_is)
    (case aR => k_is)
    (case lR => k_is)
    (case cR => k_is)
    (case kR => k_is)
    (case aS => k_is)
    (case lS => k_is)
    (case cS => k_is)
    (case kS => k_is)
    (case aB => k_is)
    (case lB => k_is)
    (case cB => k_is)
    (case kB => k_is)
    (case aJ => k_is)
    (case lJ => k_is)
    (case cJ => k_is)
    (case kJ => k_is)
    (case aH => k_is)
    (case lH => k_is)
    (case cH => k_is)
    (case kH => k_is)
    (case aT => k_is)
    (case lT => k_is)
    (case cT => k_is)
    (case kT => k_is)
    (case aO => k_is)
    (case lO => k_is)
    (case cO => k_is)
    (case kO => k_is)
    (case aZ => k_is)
    (case lZ => k_is)
    (case cZ => k_is)
    (case kZ => k_is)
    (case aY => k_is)
    (case lY => k_is)
    (case cY => k_is)
    (case kY => k_is)
    (case aV => k_is)
    (case lV => k_is)
    (case cV => k_is)
    (case kV => k_is)
    (case aQ => k_is)
    (case lQ => k_is)
    (case cQ => k_is)
    (case kQ => k_is)
    (case aM => k_is)
    (case lM => k_is)
    (case cM => k_is)
    (case kM => k_is)
    (case aL => k_is)
    (case lL => k_is)
    (case cL => k_is)
    (case kL => k_is)
    (case z_len => k_is)
    (case z_abs => k_is)
    (case z_int => k_is)
    (case z_range => k_is)
    (case z_max => k_is)
    (case z_min => k_is)
    (case z_all => k_is)
    (case z_any => k_is)
    (case z_tuple => k_is)
    (case z_list => k_is)
    (case z_enumerate => k_is)
    (case z_set => k_is)
    (case z_sorted => k_is)
    (case z_repr => k_is)
    (case rS => rfl)
    (case tlS => k_is)
    (case pvS => rfl)
    (case rJ => rfl)
    (case tlJ => k_is)
    (case pvJ => rfl)
    (case nt => kernel_rfl)
    (case np_ => decide +kernel)
