import PyProof.Rows.All
import Wide.All
import OpenK.AllK
import Wide.FinOn
import HandS.ForMost
import HandS.Wide
import HandS.Style
import HandS.TupAny
import PyProof.ReprRoads
import HandS.AnyAll
import HandS.EndTab
import HandS.FStrTup
import HandS.Exc
import HandS.ExcInit
import HandS.ExcOwn
import HandS.ExcField
import HandS.ExcValue
import KE.KExcIs
import HandS.ExcIs
import HandS.Walk
import KE.GoesMore
import PyProof.GenCompT
import PyProof.WalksPairs
import PyProof.TupleOfGen
import HandS.WordsExc
import HandS.Conv
import KE.RegKIsAll
import PySem.Challenge.RW_crossundo_k04_edits_applied
set_option Elab.async false
set_option linter.all false
set_option maxRecDepth 100000
set_option maxHeartbeats 4000000
namespace Cu
open PySem PySem.Spec PyProof.Rows L2
/-- all but the object at a is as it was -/
def Upto (a : Addr) (H H' : Hp) : Prop := ∀ b o, b ≠ a → H b = some o → H' b = some o
theorem Upto.refl (a : Addr) (H : Hp) : Upto a H H := fun _ _ _ e => e
theorem Upto.trans {a : Addr} {H H1 H2 : Hp} (x : Upto a H H1) (y : Upto a H1 H2) : Upto a H H2 := fun b o n e => y b o n (x b o n e)
theorem Upto.of {a : Addr} {H H' : Hp} (x : Same H H') : Upto a H H' := fun b o _ e => x b o e
theorem Upto.upd {a : Addr} {H : Hp} {o : HO} : Upto a H (upd H a o) := fun b u n e => by rw [upd_ne n]; exact e
theorem same_upd {H : Hp} {p : Addr} {o : HO} (h : H p = none) : Same H (upd H p o) := fun b x e => by
  rw [upd_ne (ne_of_none e h)]
  exact e
theorem Upto.new {a p : Addr} {H : Hp} {o : HO} (h : H p = none) : Upto a H (L2.upd H p o) := .of (same_upd h)
theorem Upto.free {a l : Addr} {H H1 : Hp} (u : Upto a H H1) (n : l ≠ a) (e : H1 l = none) : H l = none := by
  cases h : H l with
  | none => rfl
  | some o =>
    rw [u l o n h] at e
    cases e
theorem Upto.put {a l : Addr} {H H2 : Hp} {o : HO} (u : Upto a H H2) (e : H l = none) : Upto a H (L2.upd H2 l o) := fun b x n eb => by
  rw [upd_ne (ne_of_none eb e)]
  exact u b x n eb
theorem Hand.ne {H : Hp} {a l : Addr} (h : ∃ o, H a = some o) (e : H l = none) : l ≠ a := fun z => by
  obtain ⟨o, eo⟩ := h
  rw [z, eo] at e
  cases e
theorem iffF {b : Bool} {A B : Prop} (h : b = false) (hB : B) : if b = true then A else B := by
  rw [h, if_neg Bool.false_ne_true]
  exact hB
theorem iffT {b : Bool} {A B : Prop} (h : b = true) (hA : A) : if b = true then A else B := by
  rw [h, if_pos rfl]
  exact hA
theorem ne_self (x : V) : (!decide (x = x)) = false := by
  rw [decide_eq_true rfl]
  rfl
theorem Upto.list {a l : Addr} {H H' : Hp} {xs : List V} (u : Upto a H H') (n : l ≠ a) (e : H l = some (.lst xs)) : H' l = some (.lst xs) := u l _ n e
/-- the hand: three ints; the third counts at most n draws -/
def Hand (H : Hp) (a : Addr) (n : Nat) : Prop := ∃ g x c : Int, H a = some (.lst [.int g, .int x, .int c]) ∧ 0 ≤ g ∧ g < 2 ^ 600 ∧ 0 ≤ x ∧ x < 2147483647 ∧ 0 ≤ c ∧ c ≤ n
theorem Hand.mono {H : Hp} {a : Addr} {n m : Nat} (h : Hand H a n) (l : n ≤ m) : Hand H a m := by
  obtain ⟨g, x, c, h1, h2, h3, h4, h5, h6, h7⟩ := h
  exact ⟨g, x, c, h1, h2, h3, h4, h5, h6, by omega⟩
theorem Hand.same {H H' : Hp} {a : Addr} {n : Nat} (h : Hand H a n) (s : Same H H') : Hand H' a n := by
  obtain ⟨g, x, c, h1, h2⟩ := h
  exact ⟨g, x, c, s _ _ h1, h2⟩
theorem Hand.at {H H' : Hp} {a : Addr} {n : Nat} (h : Hand H a n) (s : H' a = H a) : Hand H' a n := by
  obtain ⟨g, x, c, h1, h2⟩ := h
  exact ⟨g, x, c, s.trans h1, h2⟩
theorem Hand.some {H : Hp} {a : Addr} {n : Nat} (h : Hand H a n) : ∃ o, H a = some o := by
  obtain ⟨g, x, c, h1, h2⟩ := h
  exact ⟨_, h1⟩
theorem Hand.new {H : Hp} {a p : Addr} {o : HO} {n : Nat} (h : Hand H a n) (e : H p = none) : Hand (L2.upd H p o) a n := h.same (same_upd e)
section
variable {X : Cx}
/-- data that repr can show -/
structure Shw (d : PyData) : Prop where
  show_ : d.showable = true
  dict : d.hasDict = false
  dep : d.depth ≤ 60
  len : d.shown.length ≤ sizeLine
/-- repr(x) of data: None, bools, ints, texts, lists, tuples -/
def rReprD (K : PySem.W.Frag) : List V → Hp → VK → Prop := fun xs H Q => ∃ x d, xs = [x] ∧ Dp K H x d ∧ Shw d ∧ Q (.str d.shown) H
theorem call_reprD (hg : X.A.guards = some []) (hu : X.A.units + 64 < cLine) : CallR X (.builtin "repr") (rReprD X.K) := by
  intro pins s σ H xs us Q I r h
  obtain ⟨x, d, rfl, hd, ⟨hs, hn, h6, hz⟩, q⟩ := h
  obtain ⟨u, rfl, ru⟩ := vals1 r
  obtain ⟨as, rd⟩ := Dp.reads I d x u hd ru
  cases hd with
  | non =>
    cases ru
    exact PySem.P.repr_of_none ⟨.str _, H, I.tok _, ⟨_, rfl⟩, q⟩
  | bl b =>
    cases ru
    cases b
    · exact PySem.P.repr_of_bool ⟨.str _, H, I.tok _, ⟨_, rfl⟩, q⟩
    · exact PySem.P.repr_of_bool ⟨.str _, H, I.tok _, ⟨_, rfl⟩, q⟩
  | int i =>
    obtain ⟨t, rfl⟩ := ru
    refine PySem.P.repr_of_int ?_ ⟨.str _, H, I.tok _, ⟨_, rfl⟩, q⟩
    exact of_decide_eq_true hs
  | str y =>
    obtain ⟨t, rfl⟩ := ru
    exact PySem.P.repr_of_str ⟨.str _, H, I.tok _, ⟨_, rfl⟩, q⟩ hz
  | lst sq all =>
    obtain rfl : u = _ := ru
    exact repr_of_reads' rd hs (fun z => by rw [hn] at z; cases z) hg (by omega) (fun _ _ e => e) (fun h' t tk k => ⟨.str _, H, I.kept k, ⟨t, rfl⟩, q⟩) hz
  | tup sq all =>
    obtain rfl : u = _ := ru
    exact repr_of_reads' rd hs (fun z => by rw [hn] at z; cases z) hg (by omega) (fun _ _ e => e) (fun h' t tk k => ⟨.str _, H, I.kept k, ⟨t, rfl⟩, q⟩) hz
end
/-- a def's promise where no repr is under way -/
structure FnG (P : Program) (w : World) (K : PySem.W.Frag) (mg : Str → Option Value) (base : Heap) (CX : CXT) (k : Nat) (f : Addr) (fd : FuncData) (ps : List Str) (sp : Sp) : Prop where
  len : ∀ vs H Q E, sp vs H Q E → vs.length = ps.length
  run : ∀ (A : Around) (outer : List Env) (s : Shared) (H : Hp) (args : Args) (us : List Value) (vs : List V) (Q : VK) (E : XK), A.guards = some [] → Room k A → Env0 P w K mg base A outer s H →
    BindsTo s fd args (ps.zip us) → Vals vs us → sp vs H Q E → codeAny (model P w) A (.call (.ref f) args) (CR CX outer P w H s Q E) s
theorem FnG.of {P : Program} {w : World} {K : PySem.W.Frag} {mg : Str → Option Value} {base : Heap} {CX : CXT} {k : Nat} {f : Addr} {fd : FuncData} {ps : List Str} {sp : Sp} (F : FnOk P w K mg base CX k f fd ps sp) : FnG P w K mg base CX k f fd ps sp :=
  ⟨F.len, fun A outer s H args us vs Q E _ => F.run A outer s H args us vs Q E⟩
theorem FnG.mono {P : Program} {w : World} {K : PySem.W.Frag} {mg : Str → Option Value} {base : Heap} {CX : CXT} {j k : Nat} {f : Addr} {fd : FuncData} {ps : List Str} {sp : Sp} (F : FnG P w K mg base CX j f fd ps sp) (h : j ≤ k) : FnG P w K mg base CX k f fd ps sp :=
  ⟨F.len, fun A outer s H args us vs Q E g hr => F.run A outer s H args us vs Q E g (hr.mono h)⟩
section
variable {X : Cx} {CX : CXT} {k : Nat} {f : Addr} {fd : FuncData} {ps : List Str} {sp : Sp} {dvs : List V} {ds : List Value} {E : XK} {x : Str} {p pos : Pos} {e : Expr} {es : List Expr} {t : TA}
theorem pe_callG (F : FnG X.prog X.w X.K X.mg X.base CX k f fd ps sp) (gd : X.A.guards = some []) (hr : Room k X.A) (hg : Gl X x) (hm : X.mg x = some (.ref f)) (hk : PySem.W.keepIn X.K (.ref f) = true) (hb : Binds X.K fd ps ds) (hd : Vals dvs ds) (hx : Passes CX X E)
    (ha : PA X (e :: es) t) (hdb : (x == ("__debug__" : Str)) = false := by decide) (he : starEach (e :: es) X.env = (false, eval e X.env) :: starEach es X.env := by rfl) (hpl : (backTo pos (starEach es X.env)).any (·.1) = false := by rfl) :
    PE X (.Call (.Name x p) (e :: es) [] pos) (tCall sp dvs E t) := by
  constructor
  intro pins s σ H Q I h
  apply wpAny_Call_Name_kw
  apply ld_glob I hg hm _ hdb
  refine PySem.W.callWith_K (h₀ := X.base) I.ok.mod.kin hk (thn (ha.run pos pins s σ H _ I h) ?_) he hpl
  rintro us s1 ⟨vs, H1, I1, r, q⟩
  refine ⟨I1.kIn, ?_⟩
  have rr := r.append hd
  have ll : (us ++ ds).length = ps.length := rr.length.symm.trans (F.len _ _ _ _ q)
  apply wpAny_call
  refine codeAny_mono (F.run X.A X.stack s1 H1 ⟨us, []⟩ (us ++ ds) (vs ++ dvs) Q E gd hr I1.env0 (hb s1 us I1.kIn ll) rr q) ?_
  intro z s2 hz
  match z, hz with
  | .error er, hz => exact hx pins σ H1 s1 er s2 I1 hz
  | .ok (.ret u), hz => exact I1.after hz
  | .ok .next, hz => exact hz.elim
  | .ok .brk, hz => exact hz.elim
  | .ok .cont, hz => exact hz.elim
end

/-- a def by its body, where no repr is under way -/
theorem okG {P : Program} {w : World} {K : PySem.W.Frag} {mg : Str → Option Value} {base : Heap} {x qual : Str} {st : Stmt} {f : Addr} {fd : FuncData} {N ps : List Str} {k : Nat} {sp : Sp} (F : Fun K x qual st f fd) (S : FnScope N ps (defScope st)) (len : ∀ vs H Q E, sp vs H Q E → vs.length = ps.length)
    (hbody : ∀ (cdv : Value) (A : Around) (outer : List Env) (s : Shared) (H : Hp) (vs : List V) (Q : VK) (E : XK), (A.deeper (envOfC qual (defScope st) s.heap.objs.size f cdv)).guards = some [] → Room k (A.deeper (envOfC qual (defScope st) s.heap.objs.size f cdv)) → sp vs H Q E →
      ∃ t, PSs (cxOf CX0 P w K mg base N qual (defScope st) f cdv A outer s H E).nox (defBody st) t ∧ t { nx := fun _ H' => Q .non H', rt := Q } (start N vs) H) : FnG P w K mg base CX0 (k + 1) f fd ps sp := by
  obtain ⟨oc, od, kV, doc, pm, an, cdv, ct, osl, rfl, lk, hcd⟩ := F.ex
  constructor
  · exact len
  intro A outer s H args us vs Q E gd hr e0 hb r hsp
  have keep : ∀ b o, base.get? b = some o → s.heap.get? b = some o := fun b o e => (e0.bs b o e).1
  have kin := e0.mod.kin.keeps keep
  have par : ∀ y ∈ ps.zip us, (defScope st).names.lookup y.1 = some .local ∨ ((defScope st).names.lookup y.1 = some .cell ∧ ((cellsFrom (s.heap.objs.size + 1) (defScope st).names []).lookup y.1).isSome = true) := by
    intro y hy
    have mem : y.1 ∈ ps := (List.of_mem_zip (a := y.1) (b := y.2) hy).1
    cases S.par y.1 mem with
    | inl q => exact Or.inl q
    | inr q => exact Or.inr (And.intro q (PySem.W.cellsFrom_some _ _ _ (Or.inl q)))
  apply codeAny_call_function hr.depth (kin _ _ lk) rfl S.co S.gen rfl (PySem.W.codeRec_of kin hcd)
  apply hb
  apply wpAny_newFunctionEnv_cells S.kind par
  rintro env rfl s1 ic
  refine And.intro ((e0.mod.nolimit.keeps keep).keeps ic.toInCall.keep) (codeAny_func ?_)
  obtain ⟨t, ht, hq⟩ := hbody cdv A outer s H vs Q E gd (hr.deeper _) hsp
  have I0 := inv_start (CX := CX0) (qual := qual) (f := f) (cd := cdv) (E := E) S hr.hd e0 (len _ _ _ _ hsp) r ic
  refine wpAny_mono (ht.nox.run [] s1 _ H _ I0 hq) ?_ (fun _ _ z => z)
  intro fl s' hs
  match fl, hs with
  | .ret u, ⟨v, σ', H', J, rv, q⟩ => exact ⟨v, H', J.os, J.bare, J.base, J.hok, rv, q⟩
  | .next, ⟨σ', H', J, q⟩ => exact ⟨V.non, H', J.os, J.bare, J.base, J.hok, rfl, q⟩
  | .brk, ⟨_, _, _, q⟩ => exact q.elim
  | .cont, ⟨_, _, _, q⟩ => exact q.elim

section
variable {P : Program} {w : World} {K : PySem.W.Frag} {mg mb : Str → Option Value} {k : Nat} {fa a : Addr} {tb : List (Addr × Addr)} {fd : FuncData} {x : Str} {sp : Sp} {s1 : Shared} {vs : List Value} {ns : List Int}
/-- what is tracked when the law begins: its script s (unless the top owns it) and the tables -/
structure Begin (K : PySem.W.Frag) (h : Heap) (tabs : List Addr) (a : Addr) (vs : List Value) (ns : List Int) (H : Hp) : Prop where
  tabAt : ∀ b ∈ tabs, H b = some (.tbl #[])
  tabIs : ∀ b ∈ tabs, h.get? b = some { cls := .none, data := .fields #[] }
  tabK : ∀ b ∈ tabs, K.lookup b = none
  seq : SqL K H a (ns.map V.int)
  other : ∀ b, b ∉ tabs → b ≠ a → H b = none
  script : a ∉ tabs → H a = none ∨ (K.lookup a = none ∧ H a = some (.frz { cls := .type "list", data := .seq vs.toArray } (.lst (ns.map V.int))))
theorem Begin.kinds {H : Hp} {tabs : List Addr} {h : Heap} (B : Begin K h tabs a vs ns H) (b : Addr) : H b = none ∨ b ∈ tabs ∨ (b = a ∧ K.lookup a = none ∧ H b = some (.frz { cls := .type "list", data := .seq vs.toArray } (.lst (ns.map V.int)))) := by
  by_cases m : b ∈ tabs
  · exact .inr (.inl m)
  · by_cases e : b = a
    · subst e
      rcases B.script m with z | ⟨z1, z2⟩
      · exact .inl z
      · exact .inr (.inr ⟨rfl, z1, z2⟩)
    · exact .inl (B.other b m e)
/-- an object that is neither a table nor the script is not tracked -/
theorem Begin.out {H : Hp} {tabs : List Addr} {h : Heap} (B : Begin K h tabs a vs ns H) (ha : h.get? a = some { cls := .type "list", data := .seq vs.toArray }) {b : Addr} {o : Obj} (e : h.get? b = some o)
    (n1 : ∀ us n, o.data ≠ .seq us n) (n2 : o.data ≠ .fields #[]) : H b = none := by
  rcases B.kinds b with z | z | ⟨z, _⟩
  · exact z
  · have q := e.symm.trans (B.tabIs b z)
    cases q
    exact absurd rfl n2
  · subst z
    have q := e.symm.trans ha
    cases q
    exact absurd rfl (n1 _ _)
theorem Begin.run {H : Hp} (B : Begin K s1.heap (tb.map (·.2)) a vs ns H) (hok : HOk P w H s1.heap) (KX : K.In s1.heap) (hns : s1.heap.Ns mainGlobals mg) (hb : s1.heap.Ns builtinsNs mb) (hbb : ∀ x : Str, x ≠ "__name__" → mb x = bootBuiltins x)
    (hlim : s1.heap.NoLimit) (hg : s1.gens = #[]) (cds : ∀ p ∈ tb, PySem.W.CodeHd s1.heap p.1 p.2)
    (hbm : ∃ (bm : Addr) (ob : Obj), mg "__builtins__" = some (.ref bm) ∧ bm ≠ builtinsNs ∧ s1.heap.get? bm = some ob ∧ ob.cls = .type "module" ∧ ob.dict = some builtinsNs ∧ ob.data = .plain)
    (ha : s1.heap.get? a = some { cls := .type "list", data := .seq vs.toArray }) (hr : Room k callerA)
    (hsy : ∃ mm, s1.heap.Ns sysModules mm) (F : ∀ base : Heap, K.In base → base.Ns mainGlobals mg → (∀ p ∈ tb, GxR.TabB base mg p.1 p.2) → (∃ o, base.get? sysModules = some o) → FnG P w K mg base CX0 k fa fd [x] sp)
    (bind : ∀ (s : Shared) (u : Value), BindsTo s fd ⟨[u], []⟩ [(x, u)]) (want : sp [.ref a] H (fun v _ => v = .bl true) fun _ _ _ => False) :
    codeAny (model P w) callerA (.call (.ref fa) ⟨[.ref a], []⟩) (fun r s' => r = .ok (.ret (.bool true)) ∧ OldK s1.heap s'.heap ∧ s'.os = s1.os ∧ AllBare s'.gens) s1 := by
  have out := fun {b : Addr} {o : Obj} => B.out (b := b) (o := o) ha
  have low : ∀ {b : Addr} {o : Obj}, s1.heap.get? b = some o → H b = none → (hidT s1.heap H).get? b = some o := fun e n => hidT_get e n
  have lowNs : ∀ {b : Addr} {m : Str → Option Value}, s1.heap.Ns b m → (hidT s1.heap H).Ns b m := by
    rintro b m ⟨o, es, ep, e, d, r⟩
    refine ⟨o, es, ep, low e (out e ?_ ?_), d, r⟩
    · intro us n z
      cases d.symm.trans z
    · intro z
      cases d.symm.trans z
  have lowK : K.In (hidT s1.heap H) := by
    intro b o e
    refine low (KX b o e) ?_
    rcases B.kinds b with z | z | ⟨z1, z2, _⟩
    · exact z
    · cases (B.tabK b z).symm.trans e
    · subst z1
      cases z2.symm.trans e
  have lim : (hidT s1.heap H).NoLimit := by
    obtain ⟨mc, q1, q2⟩ := hlim
    exact ⟨mc, lowNs q1, q2⟩
  have tabs : ∀ p ∈ tb, GxR.TabB (hidT s1.heap H) mg p.1 p.2 := by
    intro p hp
    have isT := B.tabIs p.2 (List.mem_map.mpr ⟨p, hp, rfl⟩)
    constructor
    · obtain ⟨o, us, file, tf, flags, tg, inF, text, tt, e1, r1, r2, r3, rest⟩ := cds p hp
      refine ⟨o, us, file, tf, flags, tg, inF, text, tt, low e1 (out e1 ?_ ?_), r1, r2, r3, rest⟩
      · intro us n z
        cases r2.symm.trans z
      · intro z
        have z' := r2.symm.trans z
        cases z'
        simp at r3
    · obtain ⟨bm, ob, b1, b2, b3, b4, b5, b6⟩ := hbm
      refine ⟨bm, ob, b1, b2, ?_, ?_, low b3 (out b3 ?_ ?_), b4, b5, b6⟩
      · intro q
        obtain ⟨o, es, ep, e, hd, _⟩ := hns
        rw [← q, b3] at e
        cases e
        cases b6.symm.trans hd
      · intro q
        rw [q, isT] at b3
        cases b3
        cases b6
      · intro us n z
        cases b6.symm.trans z
      · intro z
        cases b6.symm.trans z
    · intro z
      obtain ⟨o, es, ep, e, hd, _⟩ := hns
      rw [z, isT] at e
      cases e
      cases hd
  have md : L2.Mod K mg (hidT s1.heap H) := ⟨lowK, lowNs hns, ⟨mb, lowNs hb, hbb⟩, lim⟩
  have env : Env0 P w K mg (hidT s1.heap H) callerA [] s1 H := by
    refine ⟨rfl, md, fun b o e => of_hidT e, Nat.le_of_eq (hidT_size _ _), trivial, ?_, hok, .of_eq hg⟩
    intro b z
    cases z
  have sysb : ∃ o, (hidT s1.heap H).get? sysModules = some o := by
    obtain ⟨mm, z⟩ := hsy
    obtain ⟨o, _, _, e, _⟩ := lowNs z
    exact ⟨o, e⟩
  have go := (F _ lowK (lowNs hns) tabs sysb).run callerA [] s1 H ⟨[.ref a], []⟩ [.ref a] [.ref a] _ _ rfl hr env (bind s1 (.ref a)) (.cons rfl .nil) want
  refine codeAny_mono go ?_
  intro r s' h
  match r, h with
  | .error e, h => exact False.elim h
  | .ok .next, h => exact h.elim
  | .ok .brk, h => exact h.elim
  | .ok .cont, h => exact h.elim
  | .ok (.ret u), ⟨v, H', os, bare, un, hok', rel, q⟩ =>
    cases q
    cases rel
    have stay : ∀ b o, b ∉ tb.map (·.2) → s1.heap.get? b = some o → s'.heap.get? b = some o := by
      intro b o nb e
      rcases B.kinds b with z | z | ⟨z1, _, z⟩
      · exact un.keep b o e z (by intro m; cases m) (by intro m; cases m)
      · exact absurd z nb
      · have e1 := (hok b _ z).1
        have e2 := (hok' b _ (un.frzs b _ _ z)).1
        rw [e] at e1
        cases e1
        exact e2
    have more : ∀ p ∈ tb, ∃ us : Array Value, s'.heap.get? p.2 = some { cls := .none, data := .fields us } := by
      intro p hp
      obtain ⟨us, z⟩ := un.tbls p.2 #[] (B.tabAt _ (List.mem_map.mpr ⟨p, hp, rfl⟩))
      exact ⟨_, hok' p.2 _ z⟩
    refine ⟨rfl, ⟨?_, ?_⟩, os, bare⟩
    · intro b o e
      by_cases m : b ∈ tb.map (·.2)
      · have isT := B.tabIs b m
        obtain ⟨p, hp, rfl⟩ := List.mem_map.mp m
        obtain ⟨us, hu⟩ := more p hp
        rw [isT] at e
        cases e
        refine .inr (.inl ⟨((cds p hp).tab isT).isCodeTable, rfl, #[], us, rfl, ?_⟩)
        rw [Array.empty_append]
        exact hu
      · exact .inl (stay b o m e)
    · intro b o e
      by_cases m : b ∈ tb.map (·.2)
      · obtain ⟨p, hp, rfl⟩ := List.mem_map.mp m
        obtain ⟨us, hu⟩ := more p hp
        exact ⟨_, hu⟩
      · exact ⟨o, stay b o m e⟩
/-- such a heap there is -/
theorem begin_ex (tabs : List Addr) (hT : ∀ b ∈ tabs, s1.heap.get? b = some { cls := .none, data := .fields #[] }) (nT : ∀ b ∈ tabs, K.lookup b = none) (KX : K.In s1.heap)
    (ha : s1.heap.get? a = some { cls := .type "list", data := .seq vs.toArray }) (hi : IntsAre vs ns) (hl : ns.length ≤ sizeLine) : ∃ H, Begin K s1.heap tabs a vs ns H ∧ HOk P w H s1.heap := by
  have na : a ∉ tabs := by
    intro m
    cases (hT a m).symm.trans ha
  by_cases hk : K.lookup a = none
  · let H : Hp := fun b => if b ∈ tabs then some (.tbl #[]) else if b = a then some (.frz { cls := .type "list", data := .seq vs.toArray } (.lst (ns.map V.int))) else none
    have atT : ∀ b ∈ tabs, H b = some (.tbl #[]) := fun b m => if_pos m
    have atA : H a = some (.frz { cls := .type "list", data := .seq vs.toArray } (.lst (ns.map V.int))) := (if_neg na).trans (if_pos rfl)
    have atN : ∀ b, b ∉ tabs → b ≠ a → H b = none := fun b m e => (if_neg m).trans (if_neg e)
    refine ⟨H, ⟨atT, hT, nT, .inl (.inr ⟨_, atA⟩), atN, fun _ => .inr ⟨hk, atA⟩⟩, ?_⟩
    intro b u z
    by_cases m : b ∈ tabs
    · cases (atT b m).symm.trans z
      exact hT b m
    · by_cases e : b = a
      · subst e
        cases atA.symm.trans z
        refine ⟨ha, ?_, vs, _, vals_ints hi, ha⟩
        rw [List.length_map]
        exact hl
      · cases (atN b m e).symm.trans z
  · obtain ⟨o, ho⟩ := Option.ne_none_iff_exists'.mp hk
    have e := KX a o ho
    rw [ha] at e
    cases e
    let H : Hp := fun b => if b ∈ tabs then some (.tbl #[]) else none
    have atT : ∀ b ∈ tabs, H b = some (.tbl #[]) := fun b m => if_pos m
    have atN : ∀ b, b ∉ tabs → H b = none := fun b m => if_neg m
    refine ⟨H, ⟨atT, hT, nT, .inr ⟨_, vs.toArray, _, ho, rfl, rfl, rfl, ?_, ?_⟩, fun b m _ => atN b m, fun _ => .inl (atN a na)⟩, ?_⟩
    · rw [List.size_toArray, hi.length]
      exact hl
    · simpa using vals_ints hi
    · intro b u z
      by_cases m : b ∈ tabs
      · cases (atT b m).symm.trans z
        exact hT b m
      · cases (atN b m).symm.trans z
end
/-- all that the end of a law asks of its promise -/
def LawG (l : PySem.W.OpenLaw) (w : World) (K : PySem.W.Frag) (k n : Nat) (x : Str) (mg : Str → Option Value) (fa : Addr) (h : Heap) : Prop :=
  ∃ (fd : FuncData) (tb : List (Addr × Addr)) (sp : Sp), (∀ p ∈ tb, h.get? p.2 = some { cls := .none, data := .fields #[] }) ∧ (∀ p ∈ tb, K.lookup p.2 = none) ∧ (∀ p ∈ tb, PySem.W.CodeHd h p.1 p.2) ∧
    (∀ (s : Shared) (u : Value), BindsTo s fd ⟨[u], []⟩ [(x, u)]) ∧
    (∀ (H : Hp) (a : Addr) (ns : List Int), ns.length ≤ n → (∀ p ∈ tb, H p.2 = some (.tbl #[])) → SqL K H a (ns.map V.int) → sp [.ref a] H (fun v _ => v = .bl true) fun _ _ _ => False) ∧
    ∀ base : Heap, K.In base → base.Ns mainGlobals mg → (∀ p ∈ tb, GxR.TabB base mg p.1 p.2) → (∃ o, base.get? sysModules = some o) → FnG l.prog w K mg base CX0 k fa fd [x] sp
theorem walkG {l : PySem.W.OpenLaw} {n k : Nat} {q : Program} {loose : List Str} {XP : (Str → Option Value) → Heap → Prop} {YP : World → Heap → Prop} {d : DefRec} {K : Params → PySem.W.Frag} {x : Str}
    (hn : l.most = some n) (hn2 : n ≤ sizeLine) (hdf : d.params.defaults = []) (hr : Room k callerA) (hY : ∀ (w : World) (h : Heap), YP w h → (K w.params).In h)
    (noImp : importsNone q = true) (F : ∀ (w : World) (mg mb : Str → Option Value) (mean : ExcName → Option Value) (fa : Addr) (h : Heap), Top q (PySem.W.looseW q loose) mean mg mb h → YP w h → (K w.params).In h → h.Ns mainGlobals mg → mg d.name = some (.ref fa) → LawG l w (K w.params) k n x mg fa h) :
    PySem.W.WalkO q loose XP YP l.row.toRowW d [] (fun f vs => PySem.call f vs) := by
  apply Att.attach_call hn hdf
  intro w s0 s1 mg mb fa o pm cd doc a vs ns G Y ho hd hcd hmg hobj hints hlen hg
  have KX := hY w _ Y
  obtain ⟨fd, tb, sp, hT, nT, C, hb, hsp, hF⟩ := F w mg mb _ fa _ G.T Y KX G.T.g hmg
  have hT' : ∀ b ∈ tb.map (·.2), s1.heap.get? b = some { cls := .none, data := .fields #[] } := by
    intro b m
    obtain ⟨p, hp, rfl⟩ := List.mem_map.mp m
    exact hT p hp
  have nT' : ∀ b ∈ tb.map (·.2), (K w.params).lookup b = none := by
    intro b m
    obtain ⟨p, hp, rfl⟩ := List.mem_map.mp m
    exact nT p hp
  obtain ⟨H, B, hok⟩ := begin_ex (P := l.prog) (w := w) (tb.map (·.2)) hT' nT' KX hobj hints (Nat.le_trans hlen hn2)
  exact B.run hok KX G.T.g G.T.b G.T.builtins G.T.nolimit hg C G.T.bmain hobj hr (let ⟨mm, z, _⟩ := (G.T.seer noImp).mods; ⟨mm, z⟩) hF hb (hsp H a ns hlen (fun p hp => B.tabAt _ (List.mem_map.mpr ⟨p, hp, rfl⟩)) B.seq)
/-- a if t else b, both of the kind D: what follows is shown once -/
theorem ifx {b : Bool} {ta : TE} {Q : VK} {σ : L2.St} {H : Hp} {v : V} (D : V → Prop) (hA : b = true → (∀ v, D v → Q v H) → ta σ H Q) (hv : D v) (all : ∀ v, D v → Q v H) : if b = true then ta σ H Q else tC v σ H Q := by
  by_cases h : b = true
  · rw [if_pos h]
    exact hA h all
  · rw [if_neg h]
    exact all v hv
theorem at_of {α : Type} {xs : List α} {i : Int} (h0 : 0 ≤ i) (h1 : i < xs.length) : ∃ v, xs[i.toNat]? = some v ∧ atI xs i = some v := by
  have hj : i.toNat < xs.length := by omega
  refine ⟨xs[i.toNat], List.getElem?_eq_getElem hj, ?_⟩
  have e := atI_nat (List.getElem?_eq_getElem hj)
  rwa [Int.toNat_of_nonneg h0] at e
theorem b01 (b : Bool) : -(2 ^ 64) < (if b = true then (1 : Int) else 0) ∧ (if b = true then (1 : Int) else 0) < 2 ^ 64 := by cases b <;> decide
theorem b01_mul (b : Bool) {x B : Int} (h0 : 0 ≤ x) (h1 : x < B) : 0 ≤ x * (if b = true then (1 : Int) else 0) ∧ x * (if b = true then (1 : Int) else 0) < B := by
  cases b
  · rw [if_neg Bool.false_ne_true, Int.mul_zero]
    omega
  · rw [if_pos rfl, Int.mul_one]
    omega
/-- a comprehension without a test -/
theorem lc_yes {σ : L2.St} {H : Hp} {A B : Hp → Prop} (h : A H) : tYes σ H fun b H3 => if b = true then A H3 else B H3 := by
  show (if true = true then A H else B H)
  rw [if_pos rfl]
  exact h
theorem same_put {H H2 : Hp} {l : Addr} {o : HO} (u : Same H H2) (e : H l = none) : Same H (L2.upd H2 l o) := fun b x eb => by
  rw [upd_ne (ne_of_none eb e)]
  exact u b x eb
theorem same_upto {a : Addr} {H H1 H2 : Hp} (s : Same H H1) (u : Upto a H1 H2) (e : H a = none) : Same H H2 := fun b x eb => u b x (ne_of_none eb e) (s b x eb)
end Cu

namespace Cu
open PySem PySem.Spec PyProof.Rows L2
/-! ### texts -/
abbrev tl (x : Str) : List Nat := x.cps.toList
def mkS (l : List Nat) : Str := ⟨l.toArray⟩
theorem tl_mk (l : List Nat) : tl (mkS l) = l := List.toList_toArray
theorem tl_len (x : Str) : (tl x).length = x.length := Array.length_toList
theorem ext_t {x y : Str} (h : tl x = tl y) : x = y := PyProof.Rows.ext_toList h
theorem tl_app (x y : Str) : tl (x ++ y) = tl x ++ tl y := TL.tl_append x y
theorem cut_both (z : Str) (i j : Nat) : tl (cutS z (some (i : Int)) (some (j : Int))) = ((tl z).drop i).take (j - i) := by
  show ((z.cps.toList.drop (HT.sIx z.length 0 (some (i : Int)))).take (HT.sIx z.length z.length (some (j : Int)) - HT.sIx z.length 0 (some (i : Int)))).toArray.toList = (z.cps.toList.drop i).take (j - i)
  rw [HT.sIx_nat, HT.sIx_nat, List.toList_toArray]
  have hl : z.cps.toList.length = z.length := Array.length_toList
  by_cases h : i ≤ z.length
  · rw [Nat.min_eq_left h]
    by_cases h2 : j ≤ z.length
    · rw [Nat.min_eq_left h2]
    · rw [Nat.min_eq_right (by omega), List.take_of_length_le (by rw [List.length_drop]; omega), List.take_of_length_le (by rw [List.length_drop]; omega)]
  · rw [Nat.min_eq_right (show z.length ≤ i by omega), List.drop_eq_nil_of_le (show z.cps.toList.length ≤ z.length by omega), List.drop_eq_nil_of_le (show z.cps.toList.length ≤ i by omega), List.take_nil, List.take_nil]
theorem cut_left (z : Str) (j : Nat) : tl (cutS z none (some (j : Int))) = (tl z).take j := by
  show ((z.cps.toList.drop (HT.sIx z.length 0 none)).take (HT.sIx z.length z.length (some (j : Int)) - HT.sIx z.length 0 none)).toArray.toList = z.cps.toList.take j
  rw [HT.sIx_nat, HT.sIx_none, List.toList_toArray, List.drop_zero, Nat.sub_zero]
  have hl : z.cps.toList.length = z.length := Array.length_toList
  by_cases h2 : j ≤ z.length
  · rw [Nat.min_eq_left h2]
  · rw [Nat.min_eq_right (by omega), List.take_of_length_le (by omega), List.take_of_length_le (by omega)]
theorem cut_right (z : Str) (i : Nat) : tl (cutS z (some (i : Int)) none) = (tl z).drop i := by
  show ((z.cps.toList.drop (HT.sIx z.length 0 (some (i : Int)))).take (HT.sIx z.length z.length none - HT.sIx z.length 0 (some (i : Int)))).toArray.toList = z.cps.toList.drop i
  rw [HT.sIx_nat, HT.sIx_none, List.toList_toArray]
  have hl : z.cps.toList.length = z.length := Array.length_toList
  by_cases h : i ≤ z.length
  · rw [Nat.min_eq_left h, List.take_of_length_le (by rw [List.length_drop]; omega)]
  · rw [Nat.min_eq_right (by omega), List.drop_eq_nil_of_le (by omega), List.drop_eq_nil_of_le (by omega), List.take_nil]
/-- all signs are ASCII -/
def Asc (z : Str) : Prop := ∀ c ∈ tl z, c < 128
theorem asc_of {x : Str} {l : List Nat} (h : ∀ c ∈ tl x, c ∈ l) (k : ∀ c ∈ l, c < 128) : Asc x := fun c m => k c (h c m)
theorem joinL_nil : ∀ ys : List (List Nat), TL.joinL [] ys = ys.flatten
  | [] => rfl
  | [p] => by simp [TL.joinL]
  | p :: q :: r => by
    show p ++ ([] ++ TL.joinL [] (q :: r)) = _
    rw [joinL_nil (q :: r), List.nil_append, List.flatten_cons (l := p)]
/-- ''.join(ys) -/
theorem tl_join0 (ys : List Str) : tl (Txt.join (Str.ofString "") ys) = (ys.map tl).flatten := by
  have e := TL.tl_join (Str.ofString "") ys
  rw [← TL.join_eq] at e
  rw [show tl (Txt.join (Str.ofString "") ys) = TL.joinL (TL.tl (Str.ofString "")) (ys.map TL.tl) from e]
  exact joinL_nil _
/-! ### data that can be shown -/
structure Good (n k : Nat) (d : PyData) : Prop where
  len : d.shown.length ≤ n
  dep : d.depth ≤ k
  show_ : d.showable = true
  dict : d.hasDict = false
theorem Good.mono {n k n' k' : Nat} {d : PyData} (g : Good n k d) (hn : n ≤ n') (hk : k ≤ k') : Good n' k' d := ⟨Nat.le_trans g.len hn, Nat.le_trans g.dep hk, g.show_, g.dict⟩
theorem good_none {n k : Nat} (h : 4 ≤ n) : Good n k .none := ⟨Nat.le_trans (by decide +kernel) h, by simp [PyData.depth], by simp [PyData.showable], by simp [PyData.hasDict]⟩
theorem good_bool {n k : Nat} (b : Bool) (h : 5 ≤ n) : Good n k (.bool b) := ⟨Nat.le_trans (by cases b <;> decide +kernel) h, by simp [PyData.depth], by simp [PyData.showable], by simp [PyData.hasDict]⟩
theorem good_int {n k : Nat} {i : Int} (h : i.natAbs.log2 < 1920) (hn : 2000 ≤ n) : Good n k (.int i) := by
  refine ⟨?_, by simp [PyData.depth], by simp [PyData.showable, h], by simp [PyData.hasDict]⟩
  have e := int_text_length_le (k := 1920) (by decide) h
  simp only [PyData.shown]
  rw [PySem.ofString_length]
  omega
theorem good_str {n k : Nat} {z : Str} (h : Asc z) (hn : 10 * z.length + 2 ≤ n) : Good n k (.str z) := by
  refine ⟨?_, by simp [PyData.depth], by simp [PyData.showable], by simp [PyData.hasDict]⟩
  simp only [PyData.shown]
  exact Nat.le_trans (StrLaws.reprText_len z fun c m => Nat.lt_trans (h c m) (by decide)) hn
theorem piled_le {n : Nat} : ∀ ds : List PyData, (∀ d ∈ ds, d.shown.length ≤ n) → piled (PyData.shownAll ds) ≤ (n + 2) * ds.length
  | [], _ => by simp [PyData.shownAll, piled]
  | d :: r, h => by
    have h1 := h d List.mem_cons_self
    have h2 := piled_le r fun z m => h z (List.mem_cons_of_mem _ m)
    simp only [PyData.shownAll]
    rw [piled_cons, List.length_cons, Nat.mul_succ]
    omega
theorem list_text (ts : List Str) : (listText ts).length ≤ piled ts + 2 := by
  cases ts with
  | nil => decide +kernel
  | cons t r =>
    have e := textFrom_length_pos r 1 (("[" : Str) ++ (if (0 : Nat) > 0 then ", " else "" : String) ++ t) (by decide)
    have e2 : (("[" : Str) ++ (if (0 : Nat) > 0 then ", " else "" : String) ++ t).length = 1 + t.length := by
      rw [strLen_append, strLen_append]
      rfl
    show (textFrom 1 _ r ++ Str.ofString "]").length ≤ _
    rw [strLen_append, e, e2, piled_cons]
    have e3 : (Str.ofString "]").length = 1 := rfl
    omega
theorem all_of {n k : Nat} : ∀ ds : List PyData, (∀ d ∈ ds, Good n k d) → PyData.depthAll ds ≤ k ∧ PyData.showableAll ds = true ∧ PyData.hasDictAll ds = false
  | [], _ => by simp [PyData.depthAll, PyData.showableAll, PyData.hasDictAll]
  | d :: r, h => by
    obtain ⟨h1, h2, h3⟩ := all_of r fun z m => h z (List.mem_cons_of_mem _ m)
    have g := h d List.mem_cons_self
    have g2 := g.dep
    simp only [PyData.depthAll, PyData.showableAll, PyData.hasDictAll, g.show_, g.dict, h2, h3, Bool.and_self, Bool.or_self, and_self, and_true]
    omega
theorem good_list {n k m : Nat} {ds : List PyData} (h : ∀ d ∈ ds, Good n k d) (hm : (n + 2) * ds.length + 2 ≤ m) : Good m (k + 1) (.list ds) := by
  obtain ⟨h1, h2, h3⟩ := all_of ds h
  have p := piled_le ds fun d z => (h d z).len
  have t := list_text (PyData.shownAll ds)
  refine ⟨?_, ?_, ?_, ?_⟩
  · simp only [PyData.shown]
    omega
  · simp only [PyData.depth]
    omega
  · simp only [PyData.showable]
    exact h2
  · simp only [PyData.hasDict]
    exact h3
theorem good_tup {n k m : Nat} {ds : List PyData} (h : ∀ d ∈ ds, Good n k d) (hm : (n + 2) * ds.length + 2 ≤ m) : Good m (k + 1) (.tuple ds) := by
  obtain ⟨h1, h2, h3⟩ := all_of ds h
  have p := piled_le ds fun d z => (h d z).len
  have t := fmt_text (PyData.shownAll ds)
  refine ⟨?_, ?_, ?_, ?_⟩
  · simp only [PyData.shown]
    omega
  · simp only [PyData.depth]
    omega
  · simp only [PyData.showable]
    exact h2
  · simp only [PyData.hasDict]
    exact h3
theorem Good.shw {n k : Nat} {d : PyData} (g : Good n k d) (hn : n ≤ 16000000 := by decide) (hk : k ≤ 60 := by decide) : Shw d := ⟨g.show_, g.dict, Nat.le_trans g.dep hk, Nat.le_trans (Nat.le_trans g.len hn) (by decide)⟩
end Cu

namespace Cu
open PySem PySem.Spec PyProof.Rows L2
/-! ### generator expressions whose element changes nothing -/
/-- what xv gives when it is walked from the state s1: n items, the i-th as Pf says; its walk leans on no table -/
def Src (prog : Program) (w : World) (P : Addr) (s1 : Shared) (xv : Value) (n : Nat) (Pf : Nat → Value → Prop) : Prop :=
  ∀ (A : Around) (E : Value → Shared → Prop) (Q : Value → Shared → Prop),
    (∀ (o : Obj) (fp : List Addr) (go : Nat → Heap → Prop), (∀ A' : Around, A'.handled = none → Walks prog w A' s1.heap.objs.size fp [s1.heap.objs.size] n Pf go) → go 0 (s1.heap.push o) → (∀ b ∈ fp, b ≤ s1.heap.objs.size ∧ b ≠ P) →
      Q (.ref s1.heap.objs.size) { s1 with heap := s1.heap.push o }) → A.handled = none → wpAny (model prog w) A (pyIter xv) Q E s1
theorem src_str {prog : Program} {w : World} {P : Addr} {s1 : Shared} {a : Str} {t : Tok} (hP : P < s1.heap.objs.size) : Src prog w P s1 (.str a t) a.cps.size (SignAt a) := by
  intro A E Q h hh
  apply wpAny_pyIter_str
  intro o go W st
  apply h o _ go W st
  intro b hb
  rcases List.mem_cons.mp hb with rfl | z
  · exact ⟨Nat.le_refl _, fun e => Nat.lt_irrefl _ (e ▸ hP)⟩
  · cases z
/-- the element, evaluated in the generator's own frame: it changes nothing and gives what F says -/
def Calm (X : Cx) (P : Addr) (scope : Scope) (x : Str) (elt : Expr) (s1 : Shared) (Pf F : Nat → Value → Prop) : Prop :=
  ∀ (cenv : Env) (A' : Around) (E' : Value → Shared → Prop) (i : Nat) (v : Value) (s2 : Shared) (m2 : Str → Option Value), cenv.scope = scope → cenv.globals = X.env.globals → cenv.builtins = builtinsNs → cenv.cells = cloFrom X.env.cells scope.names [] →
    A'.handled = none → Pf i v → s2.heap.Ns cenv.locals m2 → m2 x = some v → (∀ b u, b ≠ P → s1.heap.get? b = some u → s2.heap.get? b = some u) →
    wpAny (model X.prog X.w) A' (eval elt cenv) (fun y s3 => F i y ∧ Keeps s2 s3) E' s2
/-- the generator g is ready to be walked -/
def Set_ (X : Cx) (pins : List (Addr × Obj)) (σ : L2.St) (H1 : Hp) (P : Addr) (n : Nat) (F : Nat → Value → Prop) (g : Addr) (s5 : Shared) : Prop :=
  ∃ (fp wr : List Addr) (G : Array GenState → Array GenState → Prop) (go : Nat → Shared → Prop), WalksS X.prog X.w X.A.in1 g fp wr G n F go ∧ go 0 s5 ∧
    ∀ s', Moved wr G s5 s' → ∃ H2, GxR.Tabbed P H1 H2 ∧ Inv X pins σ H2 s'
theorem walksS_imp {prog : Program} {w : World} {A : Around} {I : Addr} {fp wr : List Addr} {G : Array GenState → Array GenState → Prop} {n : Nat} {F F' : Nat → Value → Prop} {go : Nat → Shared → Prop} (W : WalksS prog w A I fp wr G n F go) (h : ∀ j y, F j y → F' j y) :
    WalksS prog w A I fp wr G n F' go where
  sub := W.sub
  grefl := W.grefl
  gtrans := W.gtrans
  frame := W.frame
  item := fun i s Q E hi st q => W.item i s Q E hi st fun v s' hv => q v s' (h i v hv)
  done := W.done
  self := W.self
section
variable {X : Cx} {pins : List (Addr × Obj)} {σ : L2.St} {H : Hp} {s : Shared}
theorem gen_make {c P : Addr} {elt iter : Expr} {x : Str} {px gpos : Pos} {scope : Scope} {te : TE} {k : Nat} {Q' : Value → Shared → Prop} {R : V → Hp → Prop}
    (hr : Room k X.A) (TB : GxR.TabB X.base X.mg c P) (hcode : X.env.code = .ref c) (S : GxR.GenS X.env scope x) (hi : PE X iter te) (hs : ∀ v, genFold iter X.env v = pure v) (I : Inv X pins σ H s)
    (h : te σ H fun v H1 => GxR.TabG H1 P ∧ R v H1)
    (src : ∀ v H1 s1 u, R v H1 → GxR.TabG H1 P → Inv X pins σ H1 s1 → RelV v u → P < s1.heap.objs.size → ∃ n Pf F, Src X.prog X.w P s1 u n Pf ∧ Calm X P scope x elt s1 Pf F ∧ ∀ g s5, Set_ X pins σ H1 P n F g s5 → Q' (.ref g) s5) :
    wpAny (model X.prog X.w) X.A (eval (.GeneratorExp elt [⟨.Name x px, iter, [], 0⟩] scope gpos) X.env) Q' X.xe s := by
  have dp : X.A.depth < recursionLimit := by
    have := hr.dp
    omega
  apply wpAny_GeneratorExp_walksQ hr.hd S.co (closure_ok S.free) S.cell S.dot S.loc S.kind dp _ hs
  refine thn (hi.run pins s σ H _ I h) ?_
  rintro xv s1 ⟨v, H1, I1, r1, tab, hR⟩
  obtain ⟨ps, hP, tr⟩ := id tab
  have isP : s1.heap.get? P = some { cls := .none, data := .fields ps } := I1.hok P _ hP
  have ltP : P < s1.heap.objs.size := Heap.lt_size isP
  obtain ⟨n, Pf, F, sc, calm, fin⟩ := src v H1 s1 xv hR tab I1 r1 ltP
  apply sc _ _ _ _ hr.hd
  intro o fp go W st hfp
  have isP2 : (s1.heap.push o).get? P = some { cls := .none, data := .fields ps } := Heap.get?_push_of_some _ isP
  have cd : PySem.W.CodeHd (s1.heap.push o) c P := TB.code.keeps fun b u e => Heap.get?_push_of_some _ (I1.bk b u e)
  have lim2 := I1.nolimit.push o
  refine And.intro lim2 ?_
  -- behind the making of the code object
  have rest : ∀ (code : Value) (h3 : Heap) (tk : Nat) (qs : Array Value), Heap.ExtBut P (s1.heap.push o) h3 → (s1.heap.push o).objs.size ≤ h3.objs.size → h3.get? P = some { cls := .none, data := .fields qs } → (∃ more, qs = ps ++ more) → TriplesOk qs.toList →
      wpAny (model X.prog X.w) X.A (builtinsFor X.env.globals X.env.builtins) (fun bi s4 =>
        ∃ it fp wr n₀ Pf St₀ pz F, Value.ref s1.heap.objs.size = .ref it ∧ (∀ A' : Around, A'.handled = none → Walks X.prog X.w A' it fp wr n₀ Pf St₀) ∧ St₀ 0 s4.heap ∧ (∀ b ∈ fp, b < s4.heap.objs.size) ∧ s4.heap.NoLimit ∧ cStatics ∉ wr ∧
          (∀ href : Heap, (∀ b o, s4.heap.get? b = some o → href.get? b = some o) → QuietGen X.prog X.w (genEnv scope (cloFrom X.env.cells scope.names []) s4.heap.objs.size code bi X.env) x [] elt (List.range s4.heap.objs.size) wr Pf pz F href) ∧
          (∀ a h₅ tk gs, gs.bare = true → s4.heap.objs.size < a → h₅.objs.size = a + 1 → (∀ b o, s4.heap.get? b = some o → h₅.get? b = some o) →
            WalksS X.prog X.w X.A.in4 a (a :: s4.heap.objs.size :: List.range s4.heap.objs.size) (s4.heap.objs.size :: wr) (GenOnlyQ s4.gens.size) (passing pz n₀ 0).length
              (fun j y => ∃ i, (passing pz n₀ 0)[j]? = some i ∧ F i y) (GenAt X.prog X.w X.A.in4 a s4.gens.size s4.heap.objs.size (List.range s4.heap.objs.size) wr pz n₀ F) →
            GenAt X.prog X.w X.A.in4 a s4.gens.size s4.heap.objs.size (List.range s4.heap.objs.size) wr pz n₀ F 0 { s4 with gens := s4.gens.push gs, toks := tk, heap := h₅ } →
            Q' (.ref a) { s4 with gens := s4.gens.push gs, toks := tk, heap := h₅ })) X.xe { s1 with heap := h3, toks := tk } := by
    intro code h3 tk qs ex size isP3 grown tr3
    obtain ⟨bm, ob, b1, b2, b3, b4, b5, b6, b7, b8⟩ := TB.bm
    have old3 : ∀ b u, b ≠ P → s1.heap.get? b = some u → h3.get? b = some u := fun b u nb e => ex b u nb (Heap.get?_push_of_some _ e)
    have itlt : s1.heap.objs.size < h3.objs.size := by
      have q : (s1.heap.push o).objs.size = s1.heap.objs.size + 1 := Heap.size_push ..
      omega
    obtain ⟨mc, nsc, _⟩ := id I1.nolimit
    have ltc : cStatics < s1.heap.objs.size := nsc.lt
    have ncP : cStatics ≠ P := by
      intro e
      obtain ⟨o', es, ep, ho, hd, _⟩ := nsc
      rw [e, isP] at ho
      cases ho
      cases hd
    have gl : h3.Ns X.env.globals X.mg := by
      rw [I1.ok.glob]
      exact ((I1.mod.glob.keeps I1.bk).push o).extBut ex TB.gP
    apply wpAny_builtinsFor gl b1 b2 (old3 _ _ b4 (I1.bk _ _ b5)) b6 b7 b8
    refine ⟨s1.heap.objs.size, fp, [s1.heap.objs.size], n, Pf, go, (fun _ => true), F, rfl, W, ?_, ?_, lim2.extBut ex ncP, ?_, ?_, ?_⟩
    · exact (W X.A hr.hd).frame _ _ _ st fun b hb u e => ex b u (hfp b hb).2 e
    · intro b hb
      exact Nat.lt_of_le_of_lt (hfp b hb).1 itlt
    · intro z
      rcases List.mem_cons.mp z with z | z
      · exact Nat.ne_of_lt ltc z
      · cases z
    · intro href kept
      constructor
      · intro A' E' i v s2 m2 hA hPv hn hm hk
        simp only [List.forIn_nil]
        exact wpAny_pure ⟨rfl, GxR.keeps_refl _⟩
      · intro A' E' i v s2 m2 hA hPv hp hn hm hk
        refine calm _ A' E' i v s2 m2 rfl rfl rfl rfl hA hPv hn hm ?_
        intro b u nb e
        have l1 := Heap.lt_size e
        refine hk b (List.mem_range.mpr (Nat.lt_trans l1 itlt)) ?_ u (kept b u (old3 b u nb e))
        intro z
        rcases List.mem_cons.mp z with z | z
        · exact Nat.ne_of_lt l1 z
        · cases z
    · intro g h5 tk5 gs bare lt5 sz5 keep5 W5 at5
      simp only [GxR.passing_true, List.length_range] at W5
      refine fin g _ ⟨_, _, _, _, walksS_imp W5.in4_1 ?_, at5, ?_⟩
      · rintro j y ⟨i, hj, hF⟩
        obtain ⟨hlt, ej⟩ := List.getElem?_eq_some_iff.mp hj
        rw [List.getElem_range] at ej
        rw [ej]
        exact hF
      · intro s' mv
        obtain ⟨more, em⟩ := grown
        have out : ∀ b u, s1.heap.get? b = some u → b ∉ h3.objs.size :: [s1.heap.objs.size] := by
          intro b u e hb
          have l1 : b < s1.heap.objs.size := Heap.lt_size e
          rcases List.mem_cons.mp hb with z | z
          · exact Nat.lt_irrefl _ (Nat.lt_trans (z ▸ l1 : (h3.objs.size : Nat) < s1.heap.objs.size) itlt)
          · rcases List.mem_cons.mp z with z | z
            · exact Nat.ne_of_lt l1 z
            · cases z
        have other : ∀ b u, b ≠ P → s1.heap.get? b = some u → s'.heap.get? b = some u := fun b u nb e => mv.heap b u (out b u e) (keep5 b u (old3 b u nb e))
        have tabNow : s'.heap.get? P = some { cls := .none, data := .fields (ps ++ more) } := by
          rw [← em]
          exact mv.heap P _ (out P _ isP) (keep5 P _ isP3)
        have J := GxR.inv_tab (more := more) (h' := s'.heap) (g' := s'.gens) (d' := s'.drawn) (t' := s'.toks) I1 hP other tabNow (AllBare.movedS (I1.bare.push bare) mv)
        rw [GxR.sh_eta s1 s' mv.os] at J
        refine ⟨upd H1 P (.tbl (ps ++ more)), ⟨⟨ps ++ more, upd_same, ?_⟩, fun b nb => upd_ne nb⟩, J⟩
        rw [← em]
        exact tr3
  cases hit : codeAmong gpos ps.toList with
  | none =>
    apply wpAny_genexprCodeX hcode (cd.code isP2 tr) (cd.tab isP2) hit
    intro c' h' tk ex ge lt co' _ tab' _
    obtain ⟨o1, vs, f1, tf, fl, tg, inF, tx, tt, op, _, _, _, _, _, _, _, _, _, tr', _⟩ := co'
    exact rest _ h' tk _ ex (Nat.le_trans ge (Nat.le_of_lt lt)) tab'.2 ⟨_, rfl⟩ tr'
  | some cv =>
    apply wpAny_genexprCode_hit hcode (cd.code isP2 tr) hit
    exact rest cv (s1.heap.push o) s1.toks ps (Heap.ExtBut.refl _ _) (Nat.le_refl _) isP2 ⟨#[], by simp⟩ tr
/-- all(test for x in iter): the test of the i-th item is tr i -/
def tAllG (P : Addr) (te : TE) (R : V → Hp → Nat → (Nat → Bool) → Prop) : TE := fun σ H Q => te σ H fun v H1 => GxR.TabG H1 P ∧ ∃ n tr, R v H1 n tr ∧ ∀ H2, GxR.Tabbed P H1 H2 → Q (.bl ((List.range n).all tr)) H2
/-- what a rule for all(..) asks of the walked thing and the element -/
def GenR (X : Cx) (P : Addr) (scope : Scope) (x : Str) (elt : Expr) (R : V → Hp → Nat → (Nat → Bool) → Prop) : Prop :=
  ∀ pins σ v H1 s1 u n tr, R v H1 n tr → GxR.TabG H1 P → Inv X pins σ H1 s1 → RelV v u → P < s1.heap.objs.size → ∃ Pf F, Src X.prog X.w P s1 u n Pf ∧ Calm X P scope x elt s1 Pf F ∧ TruthOf X.prog X.w X.A.in1 F tr
theorem pe_allG {c P : Addr} {elt iter : Expr} {x : Str} {px p pos gpos : Pos} {scope : Scope} {te : TE} {k : Nat} {R : V → Hp → Nat → (Nat → Bool) → Prop}
    (hr : Room k X.A) (hg : Gl X "all") (hm : X.mg "all" = none) (TB : GxR.TabB X.base X.mg c P) (hcode : X.env.code = .ref c) (S : GxR.GenS X.env scope x) (hi : PE X iter te) (rule : GenR X P scope x elt R)
    (hs : ∀ v, genFold iter X.env v = pure v := by intro _; rfl)
    (he : starEach [.GeneratorExp elt [⟨.Name x px, iter, [], 0⟩] scope gpos] X.env = (false, eval (.GeneratorExp elt [⟨.Name x px, iter, [], 0⟩] scope gpos) X.env) :: starEach [] X.env := by rfl) :
    PE X (.Call (.Name "all" p) [.GeneratorExp elt [⟨.Name x px, iter, [], 0⟩] scope gpos] [] pos) (tAllG P te R) := by
  constructor
  intro pins s σ H Q I h
  apply wpAny_Call_Name_kw
  apply ld_blt I hg hm (show bootBuiltins "all" = some (.builtin "all") by decide +kernel)
  apply PyProof.Rows.callWith_builtin1 _ he (by rfl)
  rw [he]
  show wpAny _ _ (spliced ((false, eval (.GeneratorExp elt [⟨.Name x px, iter, [], 0⟩] scope gpos) X.env) :: backTo pos (starEach [] X.env))) _ _ s
  apply Calls.spliced_cons
  apply gen_make (R := fun v H1 => ∃ n tr, R v H1 n tr ∧ ∀ H2, GxR.Tabbed P H1 H2 → Q (.bl ((List.range n).all tr)) H2) hr TB hcode S hi hs I h
  rintro v H1 s1 u ⟨n, tr, hR, q⟩ tab I1 ru ltP
  obtain ⟨Pf, F, sc, calm, tru⟩ := rule pins σ v H1 s1 u n tr hR tab I1 ru ltP
  refine ⟨n, Pf, F, sc, calm, ?_⟩
  rintro g s5 ⟨fp, wr, G, go, W, st, inv⟩
  apply Calls.spliced_nil
  apply call_all_walkS
  apply W.self 0 _ _ _ st
  refine ⟨g, fp, wr, G, n, F, go, tr, rfl, W, st, tru, ?_⟩
  intro s' mv
  obtain ⟨H2, tb, J⟩ := inv s' mv
  exact ⟨.bl _, H2, J, rfl, q H2 tb⟩
end
end Cu

namespace Cu
open PySem PySem.Spec PyProof.Rows L2
/-! ### data with dicts -/
def keyD : Key → PyData
  | .inl i => .int i
  | .inr x => .str x
mutual
inductive Dx (H : Hp) : V → PyData → Prop
  | non : Dx H .non .none
  | bl (b : Bool) : Dx H (.bl b) (.bool b)
  | int (i : Int) : Dx H (.int i) (.int i)
  | str (x : Str) : Dx H (.str x) (.str x)
  | lst {a : Addr} {xs : List V} {ds : List PyData} (e : H a = some (.lst xs)) (k : DxAll H xs ds) : Dx H (.ref a) (.list ds)
  | tup {a : Addr} {xs : List V} {ds : List PyData} (e : H a = some (.tup xs)) (k : DxAll H xs ds) : Dx H (.ref a) (.tuple ds)
  | dct {a : Addr} {kvs : List (Key × V)} {ds : List (PyData × PyData)} (e : H a = some (.dK kvs)) (k : DxKv H kvs ds) : Dx H (.ref a) (.dict ds)
inductive DxAll (H : Hp) : List V → List PyData → Prop
  | nil : DxAll H [] []
  | cons {v : V} {vs : List V} {d : PyData} {ds : List PyData} (h : Dx H v d) (t : DxAll H vs ds) : DxAll H (v :: vs) (d :: ds)
inductive DxKv (H : Hp) : List (Key × V) → List (PyData × PyData) → Prop
  | nil : DxKv H [] []
  | cons {k : Key} {v : V} {r : List (Key × V)} {d : PyData} {ds : List (PyData × PyData)} (h : Dx H v d) (t : DxKv H r ds) : DxKv H ((k, v) :: r) ((keyD k, d) :: ds)
end
/-- what the relation leans on stays -/
def Stays (H H' : Hp) : Prop := ∀ b o, H b = some o → (∃ xs, o = .lst xs) ∨ (∃ xs, o = .tup xs) ∨ (∃ kvs, o = .dK kvs) → H' b = some o
mutual
theorem Dx.stays {H H' : Hp} (s : Stays H H') : ∀ (d : PyData) (v : V), Dx H v d → Dx H' v d
  | .none, _, h => by
    cases h
    exact .non
  | .bool b, _, h => by
    cases h
    exact .bl b
  | .int i, _, h => by
    cases h
    exact .int i
  | .str x, _, h => by
    cases h
    exact .str x
  | .list ds, _, h => by
    cases h with
    | lst e k => exact .lst (s _ _ e (.inl ⟨_, rfl⟩)) (DxAll.stays s ds _ k)
  | .tuple ds, _, h => by
    cases h with
    | tup e k => exact .tup (s _ _ e (.inr (.inl ⟨_, rfl⟩))) (DxAll.stays s ds _ k)
  | .dict ds, _, h => by
    cases h with
    | dct e k => exact .dct (s _ _ e (.inr (.inr ⟨_, rfl⟩))) (DxKv.stays s ds _ k)
theorem DxAll.stays {H H' : Hp} (s : Stays H H') : ∀ (ds : List PyData) (vs : List V), DxAll H vs ds → DxAll H' vs ds
  | [], _, h => by
    cases h
    exact .nil
  | d :: ds, _, h => by
    cases h with
    | cons h t => exact .cons (Dx.stays s d _ h) (DxAll.stays s ds _ t)
theorem DxKv.stays {H H' : Hp} (s : Stays H H') : ∀ (ds : List (PyData × PyData)) (vs : List (Key × V)), DxKv H vs ds → DxKv H' vs ds
  | [], _, h => by
    cases h
    exact .nil
  | (_, d) :: ds, _, h => by
    cases h with
    | cons h t => exact .cons (Dx.stays s d _ h) (DxKv.stays s ds _ t)
end
section
variable {X : Cx} {pins : List (Addr × Obj)} {σ : L2.St} {H : Hp} {s : Shared}
theorem not_sys (sy : ∃ o, X.base.get? sysModules = some o) (I : Inv X pins σ H s) {a : Addr} {o : HO} (e : H a = some o) : sysModules ≠ a := by
  intro z
  obtain ⟨ob, eb⟩ := sy
  have n := (I.bs _ _ eb).2
  rw [z, e] at n
  cases n
theorem keys_read {h : Heap} : ∀ (ds : List (PyData × PyData)) {es : List DictEntry} {kvs : List (Key × V)} {vs : List (Key × Value)}, Pairs (mixKind X.prog X.w) es vs → KV kvs vs → DxKv H kvs ds → ReadsAll h (es.map (·.key)) (ds.map (·.1)) []
  | [], _, _, _, p, r, d => by
    cases d
    cases r
    cases p
    exact .nil
  | (_, _) :: ds, _, _, _, p, r, d => by
    cases d with
    | @cons k _ _ _ _ h6 h7 =>
      cases r with
      | cons h4 h5 =>
        cases p with
        | @cons e _ _ _ h1 h2 h3 =>
          have q := keys_read (h := h) ds h3 h5 h7
          have ek : keyIs k e.key = true := by
            have z := h1
            rw [← h4.1] at z
            exact z
          rcases keyIs_shape ek with ⟨i, t, rfl, e2⟩ | ⟨x, t, rfl, e2⟩
          · rw [List.map_cons, List.map_cons, e2]
            exact ReadsAll.cons (as := []) (Reads.int i t) q
          · rw [List.map_cons, List.map_cons, e2]
            exact ReadsAll.cons (as := []) (Reads.str x t) q
mutual
theorem Dx.reads (sy : ∃ o, X.base.get? sysModules = some o) (I : Inv X pins σ H s) : ∀ (d : PyData) (v : V) (u : Value), Dx H v d → RelV v u → ∃ as, Reads s.heap u d as ∧ sysModules ∉ as
  | .none, _, _, h, r => by
    cases h
    cases r
    exact ⟨_, Reads.none, fun z => (nomatch z)⟩
  | .bool b, _, _, h, r => by
    cases h
    cases r
    exact ⟨_, Reads.bool b, fun z => (nomatch z)⟩
  | .int i, _, _, h, r => by
    cases h
    obtain ⟨t, rfl⟩ := r
    exact ⟨_, Reads.int i t, fun z => (nomatch z)⟩
  | .str x, _, _, h, r => by
    cases h
    obtain ⟨t, rfl⟩ := r
    exact ⟨_, Reads.str x t, fun z => (nomatch z)⟩
  | .list ds, _, _, h, r => by
    cases h with
    | lst e k =>
      cases r
      obtain ⟨_, its, n, rv, eo⟩ := I.hok _ _ e
      obtain ⟨as, hr, hn⟩ := DxAll.reads sy I ds _ its k rv
      refine ⟨_, Reads.list eo rfl rfl (by rw [List.toList_toArray]; exact hr), fun z => ?_⟩
      rcases List.mem_cons.mp z with z | z
      · exact not_sys sy I e z
      · exact hn z
  | .tuple ds, _, _, h, r => by
    cases h with
    | tup e k =>
      cases r
      obtain ⟨_, its, rv, o, ho, hc, n, hd⟩ := I.hok _ _ e
      obtain ⟨as, hr, hn⟩ := DxAll.reads sy I ds _ its k rv
      exact ⟨_, Reads.tuple ho hc hd (by rw [List.toList_toArray]; exact hr), hn⟩
  | .dict ds, _, _, h, r => by
    cases h with
    | dct e k =>
      cases r
      obtain ⟨_, _, vs, kv, o, es, ep, ho, hx, hd, hk, hp, _⟩ := I.hok _ _ e
      obtain ⟨bs, hr, hn⟩ := DxKv.reads sy I ds _ vs es.toList k kv hp
      refine ⟨_, Reads.dict (as := []) ho hx.1 hd (keys_read ds hp kv k) hr, fun z => ?_⟩
      rcases List.mem_append.mp z with z | z
      · rcases List.mem_cons.mp z with z | z
        · exact not_sys sy I e z
        · cases z
      · exact hn z
theorem DxAll.reads (sy : ∃ o, X.base.get? sysModules = some o) (I : Inv X pins σ H s) : ∀ (ds : List PyData) (vs : List V) (us : List Value), DxAll H vs ds → Vals vs us → ∃ as, ReadsAll s.heap us ds as ∧ sysModules ∉ as
  | [], _, _, h, r => by
    cases h
    cases r
    exact ⟨_, ReadsAll.nil, fun z => (nomatch z)⟩
  | d :: ds, _, _, h, r => by
    cases h with
    | cons h1 h2 =>
      cases r with
      | cons r1 r2 =>
        obtain ⟨as, q1, n1⟩ := Dx.reads sy I d _ _ h1 r1
        obtain ⟨bs, q2, n2⟩ := DxAll.reads sy I ds _ _ h2 r2
        exact ⟨_, ReadsAll.cons q1 q2, fun z => (List.mem_append.mp z).elim n1 n2⟩
theorem DxKv.reads (sy : ∃ o, X.base.get? sysModules = some o) (I : Inv X pins σ H s) : ∀ (ds : List (PyData × PyData)) (kvs : List (Key × V)) (vs : List (Key × Value)) (es : List DictEntry), DxKv H kvs ds → KV kvs vs → Pairs (mixKind X.prog X.w) es vs →
    ∃ as, ReadsAll s.heap (es.map (·.val)) (ds.map (·.2)) as ∧ sysModules ∉ as
  | [], _, _, _, h, r, p => by
    cases h
    cases r
    cases p
    exact ⟨_, ReadsAll.nil, fun z => (nomatch z)⟩
  | (_, d) :: ds, _, _, _, h, r, p => by
    cases h with
    | cons h1 h2 =>
      cases r with
      | cons r1 r2 =>
        cases p with
        | cons p1 p2 p3 =>
          obtain ⟨bs, q2, n2⟩ := DxKv.reads sy I ds _ _ _ h2 r2 p3
          obtain ⟨as, q1, n1⟩ := Dx.reads sy I d _ _ h1 r1.2
          refine ⟨_, ReadsAll.cons (as := as) ?_ q2, fun z => (List.mem_append.mp z).elim n1 n2⟩
          show Reads s.heap _ d as
          dsimp only
          rw [p2]
          exact q1
end
end
/-- data that repr can show, dicts too -/
structure Shx (d : PyData) : Prop where
  show_ : d.showable = true
  dep : d.depth ≤ 60
  len : d.shown.length ≤ sizeLine
def rReprX : List V → Hp → VK → Prop := fun xs H Q => ∃ x d, xs = [x] ∧ Dx H x d ∧ Shx d ∧ Q (.str d.shown) H
theorem call_reprX {X : Cx} (sy : ∃ o, X.base.get? sysModules = some o) (hg : X.A.guards = some []) (hu : X.A.units + 64 < cLine) : CallR X (.builtin "repr") rReprX := by
  intro pins s σ H xs us Q I r h
  obtain ⟨x, d, rfl, hd, ⟨hs, h6, hz⟩, q⟩ := h
  obtain ⟨u, rfl, ru⟩ := vals1 r
  obtain ⟨as, rd, ns⟩ := Dx.reads sy I d x u hd ru
  have fin : ∀ a, u = .ref a → wpAny (model X.prog X.w) X.A (call (.builtin "repr") [u]) (EP X pins σ Q) X.xe s := by
    rintro a rfl
    exact repr_of_reads' rd hs (fun _ => ns) hg (by omega) (fun _ _ e => e) (fun h' t tk k => ⟨.str _, H, I.kept k, ⟨t, rfl⟩, q⟩) hz
  cases hd with
  | non =>
    cases ru
    exact PySem.P.repr_of_none ⟨.str _, H, I.tok _, ⟨_, rfl⟩, q⟩
  | bl b =>
    cases ru
    cases b
    · exact PySem.P.repr_of_bool ⟨.str _, H, I.tok _, ⟨_, rfl⟩, q⟩
    · exact PySem.P.repr_of_bool ⟨.str _, H, I.tok _, ⟨_, rfl⟩, q⟩
  | int i =>
    obtain ⟨t, rfl⟩ := ru
    refine PySem.P.repr_of_int ?_ ⟨.str _, H, I.tok _, ⟨_, rfl⟩, q⟩
    exact of_decide_eq_true hs
  | str y =>
    obtain ⟨t, rfl⟩ := ru
    exact PySem.P.repr_of_str ⟨.str _, H, I.tok _, ⟨_, rfl⟩, q⟩ hz
  | lst _ _ => exact fin _ ru
  | tup _ _ => exact fin _ ru
  | dct _ _ => exact fin _ ru
/-- bounds of what is shown -/
structure Gx (n k : Nat) (d : PyData) : Prop where
  len : d.shown.length ≤ n
  dep : d.depth ≤ k
  show_ : d.showable = true
theorem Gx.shx {n k : Nat} {d : PyData} (g : Gx n k d) (hn : n ≤ 16000000 := by decide) (hk : k ≤ 60 := by decide) : Shx d := ⟨g.show_, Nat.le_trans g.dep hk, Nat.le_trans (Nat.le_trans g.len hn) (by decide)⟩
theorem Gx.mono {n k n' k' : Nat} {d : PyData} (g : Gx n k d) (hn : n ≤ n') (hk : k ≤ k') : Gx n' k' d := ⟨Nat.le_trans g.len hn, Nat.le_trans g.dep hk, g.show_⟩
theorem Good.gx {n k : Nat} {d : PyData} (g : Good n k d) : Gx n k d := ⟨g.len, g.dep, g.show_⟩
theorem gx_all {n k : Nat} : ∀ ds : List PyData, (∀ d ∈ ds, Gx n k d) → PyData.depthAll ds ≤ k ∧ PyData.showableAll ds = true
  | [], _ => by simp [PyData.depthAll, PyData.showableAll]
  | d :: r, h => by
    obtain ⟨h1, h2⟩ := gx_all r fun z m => h z (List.mem_cons_of_mem _ m)
    have g := h d List.mem_cons_self
    have g2 := g.dep
    simp only [PyData.depthAll, PyData.showableAll, g.show_, h2, Bool.and_self, and_true]
    omega
theorem gx_list {n k m : Nat} {ds : List PyData} (h : ∀ d ∈ ds, Gx n k d) (hm : (n + 2) * ds.length + 2 ≤ m) : Gx m (k + 1) (.list ds) := by
  obtain ⟨h1, h2⟩ := gx_all ds h
  have p := piled_le ds fun d z => (h d z).len
  have t := list_text (PyData.shownAll ds)
  refine ⟨?_, ?_, ?_⟩
  · simp only [PyData.shown]
    omega
  · simp only [PyData.depth]
    omega
  · simp only [PyData.showable]
    exact h2
theorem gx_tup {n k m : Nat} {ds : List PyData} (h : ∀ d ∈ ds, Gx n k d) (hm : (n + 2) * ds.length + 2 ≤ m) : Gx m (k + 1) (.tuple ds) := by
  obtain ⟨h1, h2⟩ := gx_all ds h
  have p := piled_le ds fun d z => (h d z).len
  have t := fmt_text (PyData.shownAll ds)
  refine ⟨?_, ?_, ?_⟩
  · simp only [PyData.shown]
    omega
  · simp only [PyData.depth]
    omega
  · simp only [PyData.showable]
    exact h2
/-! ### a def by its body, its code object known -/
theorem okC {P : Program} {w : World} {K : PySem.W.Frag} {mg : Str → Option Value} {base : Heap} {x qual : Str} {st : Stmt} {f c : Addr} {fd : FuncData} {N ps : List Str} {k : Nat} {sp : Sp} (F : Fun K x qual st f fd) (hc : fd.code = .ref c) (S : FnScope N ps (defScope st)) (len : ∀ vs H Q E, sp vs H Q E → vs.length = ps.length)
    (hbody : ∀ (A : Around) (outer : List Env) (s : Shared) (H : Hp) (vs : List V) (Q : VK) (E : XK), Room k (A.deeper (envOfC qual (defScope st) s.heap.objs.size f (.ref c))) → sp vs H Q E →
      ∃ t, PSs (cxOf CX0 P w K mg base N qual (defScope st) f (.ref c) A outer s H E).nox (defBody st) t ∧ t { nx := fun _ H' => Q .non H', rt := Q } (start N vs) H) : FnOk P w K mg base CX0 (k + 1) f fd ps sp := by
  obtain ⟨oc, od, kV, doc, pm, an, cdv, ct, osl, rfl, lk, hcd⟩ := F.ex
  have e : cdv = .ref c := hc
  subst e
  refine fn_of lk hcd S len ?_
  intro A outer s H vs Q E hr hsp
  obtain ⟨t, h, q⟩ := hbody A outer s H vs Q E hr hsp
  exact ⟨t, h.nox, q⟩
theorem code_of {K : PySem.W.Frag} {x : Str} {f c P : Addr} {oc : Value} {od : Option Addr} {fd : FuncData} {sl : Array (Option Value)} (a : PySem.W.nsIn K mainGlobals x = some (some (.ref f))) (l : K.lookup f = some ⟨oc, od, .func fd, sl⟩) (ht : PySem.W.tabIn K x = some (c, P)) : fd.code = .ref c := by
  unfold PySem.W.tabIn at ht
  rw [a] at ht
  dsimp only at ht
  rw [l] at ht
  dsimp only at ht
  split at ht
  · rename_i c' hc
    split at ht
    · split at ht
      · cases Option.some.inj ht
        exact hc
      · cases ht
    · cases ht
  · cases ht
theorem out_of_K {K : PySem.W.Frag} {h : Heap} {P : Addr} (X : K.In h) (nt : PySem.W.noTabs K = true) (e : h.get? P = some (PySem.W.tabObj #[])) : K.lookup P = none := by
  cases q : K.lookup P with
  | none => rfl
  | some o =>
    have e2 := X P o q
    rw [e] at e2
    cases e2
    have e3 := List.all_eq_true.mp nt _ (PySem.W.mem_of_lookupK q)
    exact absurd (show false = true from e3) Bool.false_ne_true
end Cu

namespace Cu
open PySem PySem.Spec PyProof.Rows L2
/-! ### all(test for x in text) -/
def RText (pb : Nat → Bool) : V → Hp → Nat → (Nat → Bool) → Prop := fun v _ n tr => ∃ a : Str, v = .str a ∧ n = a.cps.size ∧ tr = GxR.trF pb a.cps.toList
/-- what the generator's frame knows of the module -/
structure Around1 (X : Cx) (cenv : Env) (h : Heap) : Prop where
  gl : h.Ns cenv.globals X.mg
  bl : ∃ mb, h.Ns cenv.builtins mb ∧ ∀ x : Str, x ≠ "__name__" → mb x = bootBuiltins x
/-- the element is a test of the sign -/
def SignTest (X : Cx) (scope : Scope) (x : Str) (elt : Expr) (pb : Nat → Bool) : Prop :=
  ∀ (cenv : Env) (A' : Around) (E' : Value → Shared → Prop) (c : Nat) (t : Tok) (s2 : Shared) (m2 : Str → Option Value), cenv.scope = scope → A'.handled = none → Around1 X cenv s2.heap → s2.heap.Ns cenv.locals m2 → m2 x = some (.str ⟨#[c]⟩ t) →
    wpAny (model X.prog X.w) A' (eval elt cenv) (fun y s3 => y = .bool (pb c) ∧ Keeps s2 s3) E' s2
theorem genR_text {X : Cx} {P : Addr} {scope : Scope} {x : Str} {elt : Expr} {pb : Nat → Bool} (hel : SignTest X scope x elt pb) : GenR X P scope x elt (RText pb) := by
  rintro pins σ v H1 s1 u n tr ⟨a, rfl, rfl, rfl⟩ ⟨ps, hP, _⟩ I ru ltP
  obtain ⟨t, rfl⟩ := ru
  refine ⟨SignAt a, fun i y => ∃ c, a.cps[i]? = some c ∧ y = .bool (pb c), src_str ltP, ?_, ?_⟩
  · intro cenv A' E' i v s2 m2 e1 e2 e3 e4 hh hv hn hm keep
    obtain ⟨c, t, hc, rfl⟩ := hv
    have kb : ∀ b u, X.base.get? b = some u → s2.heap.get? b = some u := by
      intro b u e
      have q := I.bs b u e
      refine keep b u ?_ q.1
      intro z
      rw [z, hP] at q
      cases q.2
    have ar : Around1 X cenv s2.heap := by
      constructor
      · rw [e2, I.ok.glob]
        exact I.mod.glob.keeps kb
      · obtain ⟨mb, q1, q2⟩ := I.mod.blt
        rw [e3]
        exact ⟨mb, q1.keeps kb, q2⟩
    refine wpAny_mono (hel cenv A' E' c t s2 m2 e1 hh ar hn hm) ?_ (fun _ _ z => z)
    rintro y s3 ⟨rfl, k⟩
    exact ⟨⟨c, hc, rfl⟩, k⟩
  · rintro i y s2 Q E ⟨c, hc, rfl⟩ q
    have e : a.cps.toList[i]? = some c := by
      rw [Array.getElem?_toList]
      exact hc
    rw [GxR.trF_some e] at q
    exact wpAny_truthy_bool q
theorem text_all (a : Str) (pb : Nat → Bool) : (List.range a.cps.size).all (GxR.trF pb a.cps.toList) = (tl a).all pb := GxR.all_signs a pb
/-- lo <= x <= hi -/
def between (lo hi : Str) (c : Nat) : Bool := !decide ([c] < lo.cps.toList) && !decide (hi.cps.toList < [c])
theorem eval_between {X : Cx} {scope : Scope} {x lo hi : Str} {j1 j2 : Nat} {p1 p2 p3 p4 : Pos} {cenv : Env} {A' : Around} {E' : Value → Shared → Prop} {c : Nat} {t : Tok} {s2 : Shared} {m2 : Str → Option Value} {Q : Value → Shared → Prop}
    (hk : scope.kind = .function) (hl : scope.names.lookup x = some .local) (hd : (x == ("__debug__" : Str)) = false) (e1 : cenv.scope = scope) (hn : s2.heap.Ns cenv.locals m2) (hm : m2 x = some (.str ⟨#[c]⟩ t))
    (q : ∀ tk, Q (.bool (between lo hi c)) { s2 with toks := tk }) :
    wpAny (model X.prog X.w) A' (eval (.Compare (.Constant (.str lo) j1 p1) [.LtE, .LtE] [.Name x p2, .Constant (.str hi) j2 p3] p4) cenv) Q E' s2 := by
  refine Compare_chain ?_
  apply Calls.Constant_str
  apply chain_link
  refine wpAny_Name (wpAny_loadName_local (by rw [e1]; exact hk) (show cenv.scope.names.lookup x = some .local by rw [e1]; exact hl) hn hm ?_) hd
  apply PySem.P.le_str
  apply wpAny_truthy_bool
  by_cases h : [c] < lo.cps.toList
  · have e : (!decide ([c] < lo.cps.toList)) = false := by
      rw [decide_eq_true h]
      rfl
    show (if (!decide ([c] < lo.cps.toList)) = true then _ else Q (.bool (!decide ([c] < lo.cps.toList))) _)
    rw [e]
    have z := q (s2.toks + 1)
    unfold between at z
    rw [e, Bool.false_and] at z
    exact z
  · have e : (!decide ([c] < lo.cps.toList)) = true := by
      rw [decide_eq_false h]
      rfl
    show (if (!decide ([c] < lo.cps.toList)) = true then _ else Q (.bool (!decide ([c] < lo.cps.toList))) _)
    rw [e, if_pos rfl]
    apply chain_last
    apply Calls.Constant_str
    apply PySem.P.le_str
    have z := q (s2.toks + 1 + 1)
    unfold between at z
    rw [e, Bool.true_and] at z
    exact z
theorem test_between {X : Cx} {scope : Scope} {x lo hi : Str} {j1 j2 : Nat} {p1 p2 p3 p4 : Pos} (hk : scope.kind = .function) (hl : scope.names.lookup x = some .local) (hd : (x == ("__debug__" : Str)) = false := by decide) :
    SignTest X scope x (.Compare (.Constant (.str lo) j1 p1) [.LtE, .LtE] [.Name x p2, .Constant (.str hi) j2 p3] p4) (between lo hi) := by
  intro cenv A' E' c t s2 m2 e1 hh ar hn hm
  exact eval_between hk hl hd e1 hn hm fun tk => ⟨rfl, GxR.keeps_tok _ _⟩
/-- lo <= x <= hi and ord(x) != N -/
theorem test_between_ord {X : Cx} {scope : Scope} {x lo hi N : Str} {n : Int} {tn : Tok} {j1 j2 : Nat} {p1 p2 p3 p4 p5 p6 p7 p8 p9 p10 : Pos} (hk : scope.kind = .function) (hl : scope.names.lookup x = some .local) (ho : scope.names.lookup ("ord" : Str) = some .globalImplicit)
    (hN : scope.names.lookup N = some .globalImplicit) (mo : X.mg "ord" = none) (mN : X.mg N = some (.int n tn)) (hd : (x == ("__debug__" : Str)) = false := by decide) (hdN : (N == ("__debug__" : Str)) = false := by decide) :
    SignTest X scope x (.BoolOp .And [.Compare (.Constant (.str lo) j1 p1) [.LtE, .LtE] [.Name x p2, .Constant (.str hi) j2 p3] p4, .Compare (.Call (.Name "ord" p5) [.Name x p6] [] p7) [.NotEq] [.Name N p8] p9] p10) (fun c => between lo hi c && ((c : Int) != n)) := by
  intro cenv A' E' c t s2 m2 e1 hh ar hn hm
  have kf : cenv.scope.kind = .function := by rw [e1]; exact hk
  apply BoolOp_and
  apply eval_between hk hl hd e1 hn hm
  intro tk
  apply wpAny_truthy_bool
  obtain ⟨mb, hb, hbb⟩ := ar.bl
  cases hbt : between lo hi c with
  | false =>
    show (if false = true then _ else _)
    rw [if_neg Bool.false_ne_true]
    refine ⟨?_, GxR.keeps_tok _ _⟩
    show Value.bool false = Value.bool (between lo hi c && _)
    rw [hbt, Bool.false_and]
  | true =>
    show (if true = true then _ else _)
    rw [if_pos rfl]
    apply BoolOp_one
    refine wpAny_Compare1 ?_
    refine wpAny_Call_Name_kw ?_
    refine Calls.Name_function_global (s := { s2 with toks := tk }) kf (show cenv.scope.names.lookup ("ord" : Str) = some .globalImplicit by rw [e1]; exact ho) ?_
    refine Calls.loadGlobal_builtin (s := { s2 with toks := tk }) ar.gl mo hb ((hbb "ord" (by decide)).trans (show bootBuiltins "ord" = some (.builtin "ord") by decide +kernel)) ?_
    refine PyProof.Rows.callWith_builtin1 ?_ rfl rfl
    show wpAny _ _ (spliced ((false, eval (.Name x p6) cenv) :: backTo p7 (starEach [] cenv))) _ _ _
    refine Calls.spliced_cons ?_
    refine wpAny_Name (wpAny_loadName_local (s := { s2 with toks := tk }) kf (show cenv.scope.names.lookup x = some .local by rw [e1]; exact hl) hn hm ?_) hd
    refine Calls.spliced_nil ?_
    refine PySem.P.ord_of_char ?_
    refine Calls.Name_function_global (s := { s2 with toks := tk + 1 }) kf (show cenv.scope.names.lookup N = some .globalImplicit by rw [e1]; exact hN) ?_ hdN
    refine Calls.loadGlobal_global (s := { s2 with toks := tk + 1 }) ar.gl mN ?_
    refine PySem.P.ne_int ?_
    refine ⟨?_, GxR.keeps_tok _ _⟩
    show Value.bool ((c : Int) != n) = Value.bool (between lo hi c && _)
    rw [hbt, Bool.true_and]
theorem gen_scope {env : Env} {scope : Scope} {x : Str} (h1 : scope.kind = .function) (h2 : scope.isCoroutine = false) (h3 : ∀ y ∈ scope.names, y.2 ≠ .cell ∧ y.2 ≠ .free) (h4 : scope.names.lookup (".0" : Str) = some NameKind.local) (h5 : scope.names.lookup x = some .local) : GxR.GenS env scope x :=
  ⟨h1, h2, fun y m => (h3 y m).1, h4, h5, fun y m e => absurd e (h3 y m).2⟩
/-- a comprehension over a text -/
theorem lc_str {a : Str} {g : TG} {tt : TT} {te : TE} {vs : List Nat} {σ : L2.St} {H1 : Hp} {D : Addr} {Qd : Hp → Prop} (Pv : Nat → Hp → Prop) (h0 : Pv 0 (upd H1 D (.lst [])))
    (hs : ∀ i c H, (tl a)[i]? = some c → Pv i H → g (.str ⟨#[c]⟩) (wipe σ vs) H fun σ2 H2 => wipe σ2 vs = wipe σ vs ∧ tt σ2 H2 fun b H3 =>
      if b = true then te σ2 H3 fun y H4 => ∃ acc, H4 D = some (.lst acc) ∧ acc.length < sizeLine ∧ Pv (i + 1) (upd H4 D (.lst (acc ++ [y]))) else Pv (i + 1) H3) (hd : ∀ H, Pv a.cps.size H → Qd H) :
    ∃ W : Nat → Nat → Hp → Prop, (∃ m, W 0 m (upd H1 D (.lst []))) ∧ ∀ i m H, W i m H →
      ((Its a).stop i H ∧ Qd H) ∨ ((Its a).go i H ∧ ∃ Nx : Hp → Prop, (∀ H', Nx H' → ∃ m', m' < m ∧ W (i + 1) m' H') ∧ ∀ x H', (Its a).yld i H x H' → g x (wipe σ vs) H' fun σ2 H2 => wipe σ2 vs = wipe σ vs ∧ tt σ2 H2 fun b H3 =>
        if b = true then te σ2 H3 fun y H4 => ∃ acc, H4 D = some (.lst acc) ∧ acc.length < sizeLine ∧ Nx (upd H4 D (.lst (acc ++ [y]))) else Nx H3) := by
  refine ⟨fun i m H => m = a.cps.size - i ∧ i ≤ a.cps.size ∧ Pv i H, ⟨a.cps.size, by simp, Nat.zero_le _, h0⟩, ?_⟩
  rintro i m H ⟨rfl, le, p⟩
  rcases Nat.lt_or_ge i a.cps.size with lt | ge
  · refine .inr ⟨lt, Pv (i + 1), ?_, ?_⟩
    · intro H' p'
      exact ⟨a.cps.size - (i + 1), by omega, rfl, lt, p'⟩
    · rintro x H' ⟨rfl, c, hc, rfl⟩
      exact hs i c _ (by rw [Array.getElem?_toList]; exact hc) p
  · obtain rfl : i = a.cps.size := by omega
    exact .inl ⟨Nat.le_refl _, hd H p⟩
theorem one_lt (c d : Nat) : decide ([c] < [d]) = decide (c < d) := by
  rw [decide_eq_decide, List.cons_lt_cons_iff]
  constructor
  · rintro (h | ⟨_, h⟩)
    · exact h
    · exact absurd h (List.not_lt_nil _)
  · exact Or.inl
theorem all_take (pb : Nat → Bool) (l : List Nat) : ((l.map pb).all id) = l.all pb := by
  rw [List.all_map]
  rfl
theorem tri0 : TriplesOk (#[] : Array Value).toList := True.intro
theorem tabIn_of {K : PySem.W.Frag} {x : Str} {f c P : Addr} {oc ox : Value} {od oy : Option Addr} {fd : FuncData} {sl sz : Array (Option Value)} {vs : Array Value} (a : PySem.W.nsIn K mainGlobals x = some (some (.ref f))) (l : K.lookup f = some ⟨oc, od, .func fd, sl⟩) (hc : fd.code = .ref c)
    (lc : K.lookup c = some ⟨ox, oy, .fields vs, sz⟩) (pv : vs[11]? = some (.ref P)) : PySem.W.tabIn K x = some (c, P) := by
  unfold PySem.W.tabIn
  rw [a]
  dsimp only
  rw [l]
  dsimp only
  rw [hc]
  dsimp only
  rw [lc]
  dsimp only
  rw [pv]
/-- two tables -/
theorem tabsAt_of {h : Heap} {c1 p1 c2 p2 : Addr} (a : PySem.W.CodeHd h c1 p1 ∧ h.get? p1 = some (PySem.W.tabObj #[])) (b : PySem.W.CodeHd h c2 p2 ∧ h.get? p2 = some (PySem.W.tabObj #[])) : ∀ p ∈ [(c1, p1), (c2, p2)], h.get? p.2 = some { cls := .none, data := .fields #[] } := by
  intro p m
  rcases List.mem_cons.mp m with rfl | m
  · exact a.2
  · rw [List.mem_singleton.mp m]
    exact b.2
theorem tabsK_of {K : PySem.W.Frag} {c1 p1 c2 p2 : Addr} (a : K.lookup p1 = none) (b : K.lookup p2 = none) : ∀ p ∈ [(c1, p1), (c2, p2)], K.lookup p.2 = none := by
  intro p m
  rcases List.mem_cons.mp m with rfl | m
  · exact a
  · rw [List.mem_singleton.mp m]
    exact b
theorem tabsC_of {h : Heap} {c1 p1 c2 p2 : Addr} (a : PySem.W.CodeHd h c1 p1 ∧ h.get? p1 = some (PySem.W.tabObj #[])) (b : PySem.W.CodeHd h c2 p2 ∧ h.get? p2 = some (PySem.W.tabObj #[])) : ∀ p ∈ [(c1, p1), (c2, p2)], PySem.W.CodeHd h p.1 p.2 := by
  intro p m
  rcases List.mem_cons.mp m with rfl | m
  · exact a.1
  · rw [List.mem_singleton.mp m]
    exact b.1
end Cu

namespace Cu
open PySem PySem.Spec PyProof.Rows L2
/-! ### t[::-1] of a tuple -/
section
variable {prog : Program} {w : World} {A : Around} {E : Value → Shared → Prop} {s : Shared}
theorem places_back (n : Nat) : Builtin.Slice.slicePlaces ((n : Int) - 1) (-1) (-1) = n := by
  unfold Builtin.Slice.slicePlaces
  have h1 : ¬ ((-1 : Int) > 0) := by decide
  rw [if_neg h1]
  split
  · rw [show (- -1 : Int) = 1 by decide, Int.ediv_one]
    omega
  · omega
theorem fm_congr {α β : Type} {f g : α → Option β} : ∀ (l : List α), (∀ k ∈ l, f k = g k) → l.filterMap f = l.filterMap g
  | [], _ => rfl
  | a :: r, h => by
    rw [List.filterMap_cons, List.filterMap_cons, h a List.mem_cons_self, fm_congr r fun k m => h k (List.mem_cons_of_mem _ m)]
theorem pick_back (xs : Array Value) : ((List.range xs.size).filterMap fun (k : Nat) => xs[((xs.size : Int) - 1 + (k : Int) * -1).toNat]?).toArray = xs.toList.reverse.toArray := by
  have e : (List.range xs.size).filterMap (fun (k : Nat) => xs[((xs.size : Int) - 1 + (k : Int) * -1).toNat]?) = ((List.range xs.size).map (fun k => xs.size - 1 - k)).filterMap (fun k => xs[k]?) := by
    rw [List.filterMap_map]
    apply fm_congr
    intro k m
    have := List.mem_range.mp m
    show xs[((xs.size : Int) - 1 + (k : Int) * -1).toNat]? = xs[xs.size - 1 - k]?
    rw [show ((xs.size : Int) - 1 + (k : Int) * -1).toNat = xs.size - 1 - k by omega]
  rw [e, PySem.W.krv_range, List.filterMap_reverse, PySem.W.krv_all]
theorem applied_back {sl : Addr} {vs : Value} {n : Nat} {Q : Int × Int × Nat → Shared → Prop} (hs : s.heap.IsSliceOf sl .none .none vs) (ps : IsPart vs (some (-1))) (h : Q ((n : Int) - 1, -1, n) s) :
    wpAny (model prog w) A (Builtin.Slice.sliceApplied (.ref sl) (pure (n : Int))) Q E s := by
  obtain ⟨os, hos, hcs, hds⟩ := id hs
  unfold Builtin.Slice.sliceApplied Builtin.Slice.sliceFields
  refine wpAny_bind (wpAny_bind (wpAny_field hos hds (x := .none) rfl (wpAny_bind (wpAny_field hos hds (x := .none) rfl (wpAny_bind (wpAny_field hos hds (x := vs) rfl (wpAny_pure ?_)))))))
  refine wpAny_bind (HT.slicePart_ ps ?_)
  show wpAny _ _ (if ((-1 : Int) == 0) = true then _ else _) _ _ s
  rw [if_neg (by decide)]
  refine wpAny_bind (HT.slicePart_ .none (wpAny_bind (HT.slicePart_ .none (wpAny_bind (wpAny_pure ?_)))))
  show wpAny _ _ (pure ((n : Int) - 1, (-1 : Int), Builtin.Slice.slicePlaces ((n : Int) - 1) (-1) (-1))) _ _ s
  rw [places_back]
  exact wpAny_pure h
theorem get_back {t sl : Addr} {items : Array Value} {vs : Value} {Q : Value → Shared → Prop} (ht : IsTup s.heap t items) (hs : s.heap.IsSliceOf sl .none .none vs) (ps : IsPart vs (some (-1)))
    (h : Q (.ref s.heap.objs.size) { s with heap := s.heap.push { cls := .type "tuple", data := .seq items.toList.reverse.toArray } }) (hsz : items.size ≤ sizeLine) : wpAny (model prog w) A (getItem (.ref t) (.ref sl)) Q E s := by
  have fits : sizeOk (.seq items.toList.reverse.toArray) := by
    show items.toList.reverse.toArray.size ≤ sizeLine
    rw [List.size_toArray, List.length_reverse, Array.length_toList]
    exact hsz
  obtain ⟨os, hos, hcs, hds⟩ := id hs
  have isSl : s.TypeIs (.ref sl) "slice" := ⟨os, hos, hcs⟩
  unfold getItem
  try with_reducible refine wpAny_holding ?_
  first | refine wpAny_bind (wpAny_pure ?_) | skip
  refine wpAny_bind (wpAny_sequenceKey ht.typeIs (by decide) ?_)
  refine wpAny_bind (wpAny_callSpecial?_slot (name := Str.ofString "__getitem__") ht.typeIs PyProof.Rows.slot_tuple_getitem
    (wpAny_call_entry PyProof.Rows.slot_tuple_getitem ht.typeIs entry_tuple_getitem ?_ (args_tuple_getitem _ _)))
  show wpAny _ _ (Builtin.Tuple.tupleItemsOf (.ref t) >>= _) _ _ s
  refine wpAny_bind (tupleItemsOf_ ht ?_)
  refine wpAny_bind (wpAny_typeOf isSl ?_)
  rw [if_pos (by decide)]
  refine wpAny_bind (applied_back hs ps ?_)
  have no : ¬ ((((items.size : Int) - 1) == 0 && (-1 : Int) == 1 && items.size == items.size) = true) := by
    intro q
    rw [Bool.and_eq_true, Bool.and_eq_true] at q
    exact absurd (eq_of_beq q.1.2) (by decide)
  show wpAny _ _ (if (((items.size : Int) - 1) == 0 && (-1 : Int) == 1 && items.size == items.size) = true then _ else _) _ _ s
  rw [if_neg no, pick_back]
  first
    | exact wpAny_bind (m := Builtin.Tuple.tupleExact _) (wpAny_newObj_type (wpAny_pure ⟨_, rfl, wpAny_pure h⟩) fits)
    | exact wpAny_bind (m := Builtin.Tuple.tupleExact _) (wpAny_newObj_type (wpAny_bind (wpAny_pure (wpAny_pure ⟨_, rfl, wpAny_pure h⟩))) fits)
    | exact wpAny_bind (wpAny_bind (m := Builtin.Tuple.tupleExact _) (wpAny_newObj_type (wpAny_pure (wpAny_pure ⟨_, rfl, wpAny_pure h⟩)) fits))
    | exact wpAny_bind (wpAny_bind (m := Builtin.Tuple.tupleExact _) (wpAny_newObj_type (wpAny_pure ⟨_, rfl, wpAny_pure h⟩) fits))
end
section
variable {X : Cx}
def tRevT (K : PySem.W.Frag) (te : TE) : TE := fun σ H Q => te σ H fun x H1 => ∃ a xs, x = .ref a ∧ SqT K H1 a xs ∧ ∀ p, H1 p = none → Q (.ref p) (upd H1 p (.tup xs.reverse))
theorem pe_revT {e : Expr} {te : TE} {k : Nat} {p1 p2 p3 pos : Pos} (he : PE X e te) : PE X (.Subscript e (.Slice none none (some (.UnaryOp .USub (.Constant (.int 1) k p1) p2)) p3) pos) (tRevT X.K te) := by
  constructor
  intro pins s σ H Q I h
  refine Subscript_ (thn (he.run pins s σ H _ I h) ?_)
  rintro v s1 ⟨x, H1, I1, r1, a, xs, rfl, hx, q⟩
  cases r1
  have step : PO X (some (.UnaryOp .USub (.Constant (.int 1) k p1) p2)) (tPart (tUn (rU fun i => .int (-i)) (tC (.int 1)))) := po_some (pe_un un_neg pe_int)
  refine wpAny_Slice (thn (po_none.run pins s1 σ H1 (fun o H2 => o = none ∧ H2 = H1) I1 ⟨rfl, rfl⟩) ?_)
  rintro vl s2 ⟨l, H2, I2, pl, el, e2⟩
  rw [e2] at I2
  rw [el] at pl
  refine thn (po_none.run pins s2 σ _ (fun o H3 => o = none ∧ H3 = H1) I2 ⟨rfl, rfl⟩) ?_
  rintro vu s3 ⟨u, H3, I3, pu, eu, e3⟩
  rw [e3] at I3
  rw [eu] at pu
  refine thn (step.run pins s3 σ _ (fun o H4 => o = some (-1) ∧ H4 = H1) I3 ⟨1, rfl, -1, rfl, rfl, rfl⟩) ?_
  rintro vs s4 ⟨o, H4, I4, ps, eo, e4⟩
  rw [e4] at I4
  rw [eo] at ps
  cases pl
  cases pu
  have I5 : Inv X pins σ H1 { s4 with heap := s4.heap.push { cls := .type "slice", data := .fields #[.none, .none, vs] } } := I4.kept (t' := s4.toks) fun b ob q => Heap.get?_push_of_some _ q
  obtain ⟨its, r, ht, hz⟩ := I5.tuple hx
  have len := r.length
  show wpAny (model X.prog X.w) X.A (subscriptTail e (.Slice none none (some (.UnaryOp .USub (.Constant (.int 1) k p1) p2)) p3) (.ref a) (.ref s4.heap.objs.size)) (EP X pins σ Q) X.xe { s4 with heap := s4.heap.push { cls := .type "slice", data := .fields #[.none, .none, vs] } }
  refine tail_any (ops := [.ref a, .ref s4.heap.objs.size]) ht.typeIs (PyProof.Rows.slot_tuple_getitem.lookup) ?_ (by with_unfolding_all rfl)
  refine get_back ht (Heap.IsSliceOf.new _ _ _ vs) ps ?_ (by rw [List.size_toArray]; omega)
  refine ⟨.ref _, _, I5.laid (t' := s4.toks) (o := .tup xs.reverse) (fun b ob q => Heap.get?_push_of_some _ q) (Nat.le_refl _) ?_, rfl, q _ (I5.hok.fresh (Nat.le_refl _))⟩
  refine ⟨?_, _, r.reverse, IsTup.new _ _⟩
  rw [List.length_reverse]
  exact hz
end
end Cu

namespace Cu
open PySem PySem.Spec PyProof.Rows L2
/-! ### an exception that is kept behind its suite -/
/-- at a: an exception of the class cls, its dict at d -/
def ExV (cls : Value) (d : Option Addr) (a : Addr) : HO := .ext fun h => ∃ (oe : Obj) (vs : Array Value), h.get? a = some oe ∧ Zc cls d oe ∧ oe.data = .fields vs
theorem exV_ok {P : Program} {w : World} {H : Hp} {h : Heap} {a : Addr} {cls : Value} {d : Option Addr} {oe : Obj} {vs : Array Value} (e : h.get? a = some oe) (z : Zc cls d oe) (f : oe.data = .fields vs) : ObjOk P w H h a (ExV cls d a) :=
  ⟨⟨oe, vs, e, z, f⟩, ⟨oe, e⟩, fun h1 h2 ⟨o, us, a1, a2, a3⟩ k => ⟨o, us, k _ a1, a2, a3⟩⟩
theorem track {X : Cx} {pins : List (Addr × Obj)} {σ : L2.St} {H : Hp} {s : Shared} {a : Addr} {o : HO} (I : Inv X pins σ H s) (n0 : X.s_0.heap.get? a = none) (na : H a = none) (nL : X.env.locals ≠ a)
    (nC : ∀ x c, X.env.cells.lookup x = some c → c ≠ a) (nP : ∀ p ∈ X.pn ++ pins, p.1 ≠ a) (new : ObjOk X.prog X.w (upd H a o) s.heap a o) : Inv X pins σ (upd H a o) s where
  ok := I.ok
  os := I.os
  bare := I.bare
  base := {
    keep := I.base.keep
    slot := I.base.slot
    free := fun b u e n x => by
      rw [upd_ne (fun z => by rw [z, n0] at e; cases e)]
      exact I.base.free b u e n x
    there := I.base.there
    tups := fun b xs e => by
      have z := I.base.tups b xs e
      rw [upd_ne (ne_of_none z na)]
      exact z
    frzs := fun b u v e => by
      have z := I.base.frzs b u v e
      rw [upd_ne (ne_of_none z na)]
      exact z
    tbls := fun b ps e => by
      obtain ⟨more, z⟩ := I.base.tbls b ps e
      exact ⟨more, by rw [upd_ne (ne_of_none z na)]; exact z⟩ }
  loc := I.loc
  cell := I.cell
  free := by
    rw [upd_ne nL]
    exact I.free
  freeC := fun x c e => by
    rw [upd_ne (nC x c e)]
    exact I.freeC x c e
  pin := fun p m => by
    obtain ⟨a1, a2, a3⟩ := I.pin p m
    exact ⟨a1, by rw [upd_ne (nP p m)]; exact a2, a3⟩
  hok := I.hok.laidN (fun _ _ e => e) na new
  len := I.len
/-- what 'except x as n' wishes where the exception is kept: slot i is n's -/
def wKeep (K : PySem.W.Frag) (c : Value) (i : Nat) (ts : Addr → Value → Option Addr → TS) (Wo : WX) (D : Ends) : WX := fun cls d σ H =>
  ∃ b, PySem.W.exmOne K cls c = some b ∧ (b = true → ∀ a, H a = none → ts a cls d { nx := fun σ' H' => D.nx (σ'.set i none) (upd H' a (ExV cls d a)), rt := fun _ _ => False, bk := fun _ _ => False, ct := fun _ _ => False } (σ.set i (some (.ref a))) H) ∧ (b = false → Wo cls d σ H)
section
variable {X : Cx} {x n : Str} {c : Value} {i : Nat} {body suite : List Stmt} {b0 : Stmt} {np pos pos' : Pos} {tb : WX → TS} {ts : Addr → Value → Option Addr → TS} {Wo : WX}
theorem ps_try_keep (hs : X.stack = X.env :: X.outer) (hf : X.env.frame = some X.env.locals) (hx : X.ex = []) (hN : X.N.Nodup) (hi : X.N[i]? = some n) (hln : X.env.kindOf n = some .local) (hc : Names X x c) (tk : Takes X Wo)
    (hb : ∀ (W : WX) (pn : List (Addr × Obj)) (xe : Value → Shared → Prop), Takes (X.tr pn xe) W → PassesOwn (model X.prog X.w) X.A X.env xe → PSs (X.tr pn xe) body (tb W))
    (hsu : ∀ (a : Addr) (oe : Obj) (cls : Value) (d : Option Addr) (pn : List (Addr × Obj)), Zc cls d oe → (∃ vs, oe.data = .fields vs) → PSs (X.suite a ((a, oe) :: pn)) (b0 :: suite) (ts a cls d)) :
    PS X (.Try body [.ExceptHandler (some (.Name x np)) (some n) (b0 :: suite) pos'] [] [] pos) (fun D σ H => tb (wKeep X.K c i ts Wo D) D σ H) := by
  constructor
  intro pins s σ H D I h
  have ok := I.ok
  have fr : X.A.frames = some (X.env :: X.outer) := ok.frames.trans (congrArg some hs)
  apply wpAny_Try_except
  let E2 : Value → Shared → Prop := fun e s1 => wpAny (model X.prog X.w) X.A (noteFrame e X.env) (fun _ s2 => wpAny (model X.prog X.w) X.A (setFlight e none) (fun _ s3 => wpAny (model X.prog X.w) X.A (handleBy e X.env [.ExceptHandler (some (.Name x np)) (some n) (b0 :: suite) pos']) (SP X pins D) X.xe s3) X.xe s2) X.xe s1
  have takes : Takes (X.tr (X.pn ++ pins) E2) (wKeep X.K c i ts Wo D) := by
    rintro u s' ⟨a, B, sI, pins', σ', H', cls, d, rfl, J', nb, up, sky, na, os, ag, b, em, yes, no⟩
    have J : Inv X pins σ' H' sI := J'.ofTry ok
    have sky1 : Sky B (X.env :: X.outer) a (Zc cls d) X.env.locals s'.heap := by
      rw [← hs]
      exact sky
    show wpAny (model X.prog X.w) X.A (noteFrame (.ref a) X.env) _ _ _
    refine Sky.land Zc.steady fr hf sky1 ?_
    intro h3 fl3 up3
    have J3 : Inv X pins σ' H' { s' with heap := h3 } := J.landed nb fl3.1 (up.trans up3) os ag
    obtain ⟨o3, v3, g3, z3, f3⟩ := fl3.there
    have off : a ∉ frs (X.env :: X.outer) := fun m => by
      obtain ⟨_, o', e', nf⟩ := fl3.2.2.1.mem m
      rw [g3] at e'
      cases e'
      exact nf _ f3
    have nL : a ≠ X.env.locals := fun z => off (List.mem_filterMap.mpr ⟨X.env, List.mem_cons_self, hf.trans (congrArg some z.symm)⟩)
    have nF : a ∉ X.fs := fun m => by
      obtain ⟨e, me, q⟩ := List.mem_filterMap.mp m
      exact off (List.mem_filterMap.mpr ⟨e, List.mem_cons_of_mem _ me, q⟩)
    -- it is new
    have newI : sI.heap.get? a = none := by
      cases e : sI.heap.get? a with
      | none => rfl
      | some o =>
        have z := nb a o e (by show a ∉ frs X.stack; rw [hs]; exact off)
        rw [fl3.2.1] at z
        cases z
    have new0 : X.s_0.heap.get? a = none := by
      cases e : X.s_0.heap.get? a with
      | none => rfl
      | some o =>
        obtain ⟨o', z⟩ := J.base.there a o e (by rw [hx]; exact fun m => nomatch m)
        rw [newI] at z
        cases z
    have nP : ∀ p ∈ X.pn ++ pins, p.1 ≠ a := fun p m z => by
      have e := (J.pin p m).1
      rw [z, newI] at e
      cases e
    have S3 := J3.suite g3 f3 na nL nF
    refine wpAny_handleBy_cons (codeAny_handlers_test ?_) (by intro q; cases q)
    have lt : PySem.W.Looks (model X.prog X.w) h3 (typeOf (.ref a)) cls := fun A Q E s k q => wpAny_typeOf_ref (k _ _ g3) (by rw [z3.1]; exact q)
    have lm := PySem.W.exm_one (M := model X.prog X.w) (J3.kIn) lt em
    have look : ∀ {Q : Value → Shared → Prop} {E : Value → Shared → Prop}, Q c { s' with heap := h3 } → wpAny (model X.prog X.w) (X.A.mark (some (.ref a))) (eval (.Name x np) X.env) Q E { s' with heap := h3 } := fun {Q E} q => by
      obtain ⟨hg, hdb, hm | ⟨hm, hv, hn⟩⟩ := hc
      · exact ld_glob (X := X.suite a ((a, o3) :: (X.pn ++ pins))) S3 hg hm q hdb
      · exact ld_blt (X := X.suite a ((a, o3) :: (X.pn ++ pins))) S3 hg hm hv q hn hdb
    refine look (lm.here ?_)
    cases b with
    | false =>
      show wpAny _ X.A (handleBy (.ref a) X.env []) _ _ _
      refine wpAny_handleBy_nil ?_
      obtain ⟨k1, k2, k3, oe, vs, T, oT, ts', he, hz, hd, h1, hr⟩ := id fl3
      unfold PySem.passOn
      refine wpAny_bind (wpAny_field he hd h1 ?_)
      rw [if_neg (show ¬ ((Value.ref T == Value.none) = true) from by simp)]
      have out : wpAny (model X.prog X.w) X.A (setFlight (.ref a) X.env.frame) (fun _ s4 => wpAny (model X.prog X.w) X.A (throw (.ref a) : Sem Flow) (SP X pins D) X.xe s4) X.xe { s' with heap := h3 } := by
        rw [hf]
        refine HandSPX.setFlight_upZ fl3 fun h4 hh4 up4 => wpAny_throw (tk _ _ ?_)
        exact ⟨a, B, sI, pins, σ', H', cls, d, rfl, J, nb, (up.trans up3).trans up4, .inr (.inr (by rw [hs]; exact hh4)), na, os, ag, no rfl⟩
      first
        | exact wpAny_bind (wpAny_pure (wpAny_bind out))
        | exact wpAny_bind out
    | true =>
      refine codeAny_handlers_suite_as ?_
      refine HandSPX.lands_againZ fl3 ?_
      intro h4 fl4 up4
      have J4 : Inv X pins σ' H' { s' with heap := h4 } := J.landed nb fl4.1 ((up.trans up3).trans up4) os ag
      obtain ⟨o4, v4, g4, z4, f4⟩ := fl4.there
      have S4 := J4.suite g4 f4 na nL nF
      refine store_ok (X := X.suite a ((a, o4) :: (X.pn ++ pins))) (v := .ref a) S4 hN hi (.inl hln) rfl (fun s5 S5 => ?_) (.inr hln)
      refine wpAny_mono ((hsu a o4 cls d (X.pn ++ pins) z4 ⟨_, f4⟩).run [] s5 _ H' _ S5 (yes rfl a na)) ?_ (fun _ _ z => False.elim z)
      intro f s6 hsp
      cases f with
      | next =>
        obtain ⟨σ6, H6, S6, q6⟩ := hsp
        obtain ⟨g6, n6, _⟩ := S6.pin (a, o4) (List.mem_append.mpr (.inl List.mem_cons_self))
        have I6 : Inv X pins σ6 H6 s6 := S6.unsuite ok
        have nC : ∀ y cc, X.env.cells.lookup y = some cc → cc ≠ a := fun y cc e z => by
          obtain ⟨v, o, eo, dv⟩ := I6.cell y cc e
          rw [z] at eo
          have eq := eo.symm.trans g6
          cases eq
          rw [f4] at dv
          cases dv
        exact gone_ok (track I6 new0 n6 nL.symm nC nP (exV_ok g6 z4 f4)) hN hi hln fun s7 J7 => ⟨_, _, J7, q6⟩
      | brk =>
        obtain ⟨σ6, H6, S6, q6⟩ := hsp
        exact q6.elim
      | cont =>
        obtain ⟨σ6, H6, S6, q6⟩ := hsp
        exact q6.elim
      | ret u =>
        obtain ⟨v6, σ6, H6, S6, r6, q6⟩ := hsp
        exact q6.elim
  refine wpAny_mono ((hb (wKeep X.K c i ts Wo D) (X.pn ++ pins) E2 takes PassesOwn.looking).run [] s σ H D (I.toTry _) h) ?_ (fun e s1 he => he)
  intro f s1 hsp
  cases f with
  | next =>
    obtain ⟨σ', H', J', q⟩ := hsp
    exact wpAny_execs_nil ⟨σ', H', J'.ofTry ok, q⟩
  | brk =>
    obtain ⟨σ', H', J', q⟩ := hsp
    exact ⟨σ', H', J'.ofTry ok, q⟩
  | cont =>
    obtain ⟨σ', H', J', q⟩ := hsp
    exact ⟨σ', H', J'.ofTry ok, q⟩
  | ret u =>
    obtain ⟨v, σ', H', J', r, q⟩ := hsp
    exact ⟨v, σ', H', J'.ofTry ok, r, q⟩
end
end Cu

namespace Cu
open PySem PySem.Spec PyProof.Rows L2
section
variable {X : Cx}
/-- the kept exception, as the library sees it -/
theorem exV_inst {pins : List (Addr × Obj)} {σ : L2.St} {H : Hp} {s : Shared} {a D dd : Addr} {fs : List (Str × V)} (I : Inv X pins σ H s) (e : H a = some (ExV (.ref D) (some dd) a)) (ed : H dd = some (.xd fs)) :
    ∃ (oe od : Obj) (mA : Str → Option Value), PySem.W.InstAt s.heap a oe D (some od) ∧ s.heap.Ns1 dd mA ∧ s.heap.get? dd = some od ∧ ∀ f, RelO (fs.lookup f) (mA f) := by
  have he : ObjOk X.prog X.w H s.heap a (ExV (.ref D) (some dd) a) := I.hok a _ e
  obtain ⟨⟨oe, vs, g, z, f⟩, _⟩ := he
  have hd : ObjOk X.prog X.w H s.heap dd (.xd fs) := I.hok dd _ ed
  obtain ⟨mA, ns, r⟩ := hd
  obtain ⟨od, ho, _⟩ := lookIn_ns ns
  exact ⟨oe, od, mA, ⟨g, z.1, by unfold PySem.W.notCls; rw [f], by rw [z.2]; exact ho⟩, ns, ho, r⟩
/-- isinstance(e, c) -/
def rIsV (K : PySem.W.Frag) : List V → Hp → VK → Prop := fun xs H Q => ∃ (a D C dd : Addr) (fs : List (Str × V)) (b : Bool), xs = [.ref a, .ref C] ∧ H a = some (ExV (.ref D) (some dd) a) ∧ H dd = some (.xd fs) ∧ ExcC K D ∧ PySem.W.kitOne K (.ref D) (.ref C) = some b ∧ Q (.bl b) H
theorem kit_of {K : PySem.W.Frag} {a D : Addr} {oe : Obj} {od : Option Obj} (C : ExcC K D) : PySem.W.KitX K (.ref a) (.ref D) (fun h => PySem.W.InstAt h a oe D od) := by
  have hc : (PySem.W.clsIn K D).isSome = true := by
    obtain ⟨cd, e, _⟩ := PySem.W.any_some C.hd
    rw [e]
    rfl
  exact PySem.W.kitx_exc hc C.hg C.hk C.hs C.ha C.hn C.ht C.hm
theorem call_isV : CallR X (.builtin "isinstance") (rIsV X.K) := by
  intro pins s σ H xs us Q I r h
  obtain ⟨a, D, C, dd, fs, b, rfl, e, ed, ec, k, q⟩ := h
  cases r with
  | cons rx rr =>
    cases rr with
    | cons rt rr =>
      cases rr
      cases rx
      cases rt
      obtain ⟨oe, od, mA, inst, _⟩ := exV_inst I e ed
      exact PySem.W.kia_one (kit_of ec) I.kIn inst k (fun z => nomatch z) fun tk => ⟨.bl b, H, I.kept (t' := tk) fun _ _ z => z, rfl, q⟩
/-- isinstance(e, (c, ..)) -/
def rIsVs (K : PySem.W.Frag) : List V → Hp → VK → Prop := fun xs H Q => ∃ (a D t dd : Addr) (fs : List (Str × V)) (cs : List Addr) (b : Bool), xs = [.ref a, .ref t] ∧ H a = some (ExV (.ref D) (some dd) a) ∧ H dd = some (.xd fs) ∧ ExcC K D ∧ SqT K H t (cs.map V.ref) ∧
  PySem.W.kitAny K (.ref D) (cs.map Value.ref) = some b ∧ Q (.bl b) H
theorem refs_are : ∀ {cs : List Addr} {us : List Value}, Vals (cs.map V.ref) us → us = cs.map Value.ref
  | [], _, .nil => rfl
  | c :: cs, _, .cons r t => by
    rw [refs_are t]
    cases r
    rfl
theorem call_isVs : CallR X (.builtin "isinstance") (rIsVs X.K) := by
  intro pins s σ H xs us Q I r h
  obtain ⟨a, D, t, dd, fs, cs, b, rfl, e, ed, ec, st, k, q⟩ := h
  cases r with
  | cons rx rr =>
    cases rr with
    | cons rt rr =>
      cases rr
      cases rx
      cases rt
      obtain ⟨oe, od, mA, inst, _⟩ := exV_inst I e ed
      obtain ⟨its, rv, ⟨⟨oc, odd, odt, osl⟩, eo, hc, n, hd⟩, _⟩ := I.tuple st
      simp only at hc hd
      subst hc
      subst hd
      have ei := refs_are rv
      exact PySem.W.kia_tup (kit_of ec) I.kIn inst eo (by rw [ei]; exact k) (fun z => nomatch z) fun tk => ⟨.bl b, H, I.kept (t' := tk) fun _ _ z => z, rfl, q⟩
/-- e.f -/
def tXv (C : Addr) (f : Str) (te : TE) : TE := fun σ H Q => te σ H fun x H1 => ∃ (a dd : Addr) (fs : List (Str × V)) (v : V), x = .ref a ∧ H1 a = some (ExV (.ref C) (some dd) a) ∧ H1 dd = some (.xd fs) ∧ fs.lookup f = some v ∧ Q v H1
theorem pe_xv {C : Addr} {e : Expr} {te : TE} {pos : Pos} {n : Str} (T : XfC X.K C) (hno : PySem.W.findIn X.K (.ref C) n = some none) (he : PE X e te) (hb : attributeBase e n X.env (eval e X.env) = eval e X.env := by rfl) : PE X (.Attribute e n pos) (tXv C n te) := by
  constructor
  intro pins s σ H Q I h
  refine attr_of hb (thn (he.run pins s σ H _ I h) ?_)
  rintro u s1 ⟨x, H1, I1, rx, a, dd, fs, v, rfl, ea, ed, l, q⟩
  cases rx
  obtain ⟨oe, od, mA, inst, ns, ho, r⟩ := exV_inst I1 ea ed
  obtain ⟨od2, ho2, hl⟩ := lookIn_ns ns
  rw [ho] at ho2
  cases ho2
  obtain ⟨u, hu, ru⟩ := RelO.some_of (v := v) (o := mA n) (by rw [← l]; exact r n)
  exact HandSPX.exc_get I1.kIn inst T.ga T.gg T.exC (PySem.W.findObj_own T.hdC hno rfl (by rw [hl, hu])) (handed_of ru) ⟨v, H1, I1.tok _, ru, q⟩
end
/-! ### an own error with one field -/
/-- __init__(self, f): self.f = f -/
def spInit1 (C : Addr) (f : Str) : Sp := fun vs H Q _ => ∃ (a : Addr) (v : V), vs = [.ref a, v] ∧ H a = some (exo a C none) ∧ ∀ dx, H dx = none → dx ≠ a → Q .non (upd (upd H dx (exd dx [(f, v)])) a (exo a C (some dx)))
theorem made_heap {H : Hp} {a dx : Addr} {C : Addr} {f : Str} {v : V} {o : HO} (n : H a = none) (ne : dx ≠ a) : upd (del (upd (upd (upd H a o) dx (exd dx [(f, v)])) a (exo a C (some dx))) a) dx (.xd [(f, v)]) = upd H dx (.xd [(f, v)]) := by
  funext b
  by_cases h1 : b = dx
  · rw [h1, upd_same, upd_same]
  · rw [upd_ne h1, upd_ne h1]
    by_cases h2 : b = a
    · rw [h2, del_same, n]
    · rw [del_ne h2, upd_ne h2, upd_ne h1, upd_ne h2]
/-- raise C(v): what is left to be shown -/
theorem raise1 {σ : L2.St} {C : Addr} {f : Str} {ta : TA} {H : Hp} {Q : XK} {v : V} (h : ∀ R : List V → Hp → Prop, R [v] H → ta σ H R) (q : ∀ d, H d = none → Q (.ref C) (some d) (upd H d (.xd [(f, v)]))) : tMkO C (spInit1 C f) [] ta σ H Q := by
  refine h _ ⟨by show 1 ≤ 1000; decide, fun a na => ⟨a, v, rfl, upd_same, fun dx nd ne => ⟨rfl, dx, [(f, v)], upd_same, ?_, ?_, ?_⟩⟩⟩
  · rw [upd_ne ne]
    exact upd_same
  · rw [upd_ne ne] at nd
    exact nd
  · rw [made_heap na ne]
    refine q dx ?_
    rw [upd_ne ne] at nd
    exact nd
end Cu

namespace Cu
open PySem PySem.Spec PyProof.Rows L2
/-! ### enumerate(tuple) -/
section
variable {prog : Program} {w : World} {A : Around} {E : Value → Shared → Prop} {s : Shared}
theorem enum_newT (l : Addr) (items : Array Value) (n : Nat) (dct : Option Addr) (sl : Array (Option Value)) :
    Meets (Builtin.«enumerate.__new__» ⟨[.type "enumerate", .ref l], []⟩) (fun _ R s => s.heap.get? l = some { cls := .type "tuple", dict := dct, data := .seq items n, slots := sl } ∧
      R (.ok (.ret (.ref (s.heap.push { cls := .type "tuple_iterator", data := .fields #[.ref l, .int 0 0] }).objs.size)))
        { s with heap := (s.heap.push { cls := .type "tuple_iterator", data := .fields #[.ref l, .int 0 0] }).push { cls := .type "enumerate", data := .fields #[.none, .bool false, .ref s.heap.objs.size, rawInt 0, .none, .none] } }) :=
  .of_wp fun prog w A R s h => by
    obtain ⟨hp, g, d, tk, os⟩ := s
    obtain ⟨e, q⟩ := h
    have sub := sub_enumerate
    have tup : Heap.IsTuple (Shared.heap ⟨hp, g, d, tk, os⟩) l items := ⟨_, e, rfl, n, rfl⟩
    wp_walk using AutoSeq1.wpAny_loadPart' e
    refine wpAny_stack_any fun st => wpAny_pure ?_
    split
    · rename_i c _ _ _ _ _
      cases (c == Value.type "enumerate")
      · wp_walk using AutoSeq1.wpAny_loadPart' e, wpAny_pyIter_tuple tup
        exact ⟨_, rfl, q⟩
      · wp_walk using AutoSeq1.wpAny_loadPart' e, wpAny_pyIter_tuple tup
        exact ⟨_, rfl, q⟩
    · wp_walk using AutoSeq1.wpAny_loadPart' e, wpAny_pyIter_tuple tup
      exact ⟨_, rfl, q⟩
theorem call_enumT {l : Addr} {items : Array Value} {Q : Value → Shared → Prop} (tup : s.heap.IsTuple l items)
    (q : ∀ h', IsEnum h' (s.heap.objs.size + 1) s.heap.objs.size 0 .none → h'.IsTupleIter s.heap.objs.size l 0 → h'.objs.size = s.heap.objs.size + 2 →
      (∀ b o, s.heap.get? b = some o → h'.get? b = some o) → Q (.ref (s.heap.objs.size + 1)) { s with heap := h' }) :
    wpAny (model prog w) A (call (.type "enumerate") [.ref l]) Q E s := by
  obtain ⟨⟨c, dct, dt, sl⟩, e, hc, n, hd⟩ := tup
  replace hc : c = .type "tuple" := hc
  replace hd : dt = .seq items n := hd
  subst hc hd
  refine callType_new F.called_enumerate (by decide) (F.typeCall_enumerate_1 _) (F.newCall_enumerate_1 _) (fun obj => F.args_object_init_2 obj _) F.entry_enumerate_new (enum_newT l items n dct sl) ⟨e, ?_⟩
  have z1 : (s.heap.push { cls := .type "tuple_iterator", data := .fields #[.ref l, .int 0 0] }).objs.size = s.heap.objs.size + 1 := Heap.size_push ..
  show _ ∧ _
  rw [z1]
  have he : IsEnum ((s.heap.push { cls := .type "tuple_iterator", data := .fields #[.ref l, .int 0 0] }).push { cls := .type "enumerate", data := .fields #[.none, .bool false, .ref s.heap.objs.size, rawInt 0, .none, .none] }) (s.heap.objs.size + 1) s.heap.objs.size 0 .none := by
    have z := Heap.get?_push_size (s.heap.push { cls := .type "tuple_iterator", data := .fields #[.ref l, .int 0 0] }) (o := { cls := .type "enumerate", data := .fields #[.none, .bool false, .ref s.heap.objs.size, rawInt 0, .none, .none] }) rfl
    rw [z1] at z
    exact z
  exact ⟨⟨_, he, rfl⟩, q _ he ⟨_, Heap.get?_push_of_some _ (Heap.get?_push_size _ rfl), rfl, rfl⟩ (by rw [Heap.size_push, z1]) fun b o x => Heap.get?_push_of_some _ (Heap.get?_push_of_some _ x)⟩
end
/-- the tuple at a, each item in a new pair -/
def ItE (K : PySem.W.Frag) (a : Addr) : It :=
  ⟨fun i H => ∃ (xs : List V) (x : V), SqT K H a xs ∧ xs[i]? = some x, fun i H v H' => ∃ T x, v = .ref T ∧ H T = none ∧ H' = upd H T (.tup [.int (i : Nat), x]) ∧ ∀ xs, SqT K H a xs → xs[i]? = some x, fun i H => ∃ xs : List V, SqT K H a xs ∧ xs.length = i⟩
theorem turn_enumT {P : Program} {w : World} {K : PySem.W.Frag} {elts : List Expr} {kk : Nat} {tpos : Pos} (a e it : Addr) (ait : a ≠ it) (ae : a ≠ e) :
    Turn P w K (.Tuple elts kk tpos) (ItE K a) [e, it] e (fun i h => (∃ old, IsEnum h e it ((i : Nat) : Int) old) ∧ h.IsTupleIter it a i ∧ e ≠ it) where
  mem := by simp
  obj := fun i h st b hb => by
    obtain ⟨⟨old, he⟩, ⟨o, ho, hc, hd⟩, _⟩ := st
    rcases (by simpa using hb : b = e ∨ b = it) with z | z
    · rw [z]
      exact ⟨_, he, fun v q => nomatch q⟩
    · rw [z]
      exact ⟨o, ho, fun v q => by rw [hd] at q; cases q⟩
  keep := fun i h h' st k => let ⟨⟨old, he⟩, hi, hne⟩ := st; ⟨⟨old, k e (by simp) _ he⟩, hi.at fun o q => k it (by simp) o q, hne⟩
  item := by
    intro X hP hw hK hc i pins s σ H E I hf st hg
    subst hP hw hK
    obtain ⟨⟨old, he⟩, hit, hne⟩ := st
    obtain ⟨xs, x, hq, hx⟩ := hg
    obtain ⟨its, rv, p, hz⟩ := I.tuple hq
    obtain ⟨u, hu, ru⟩ := rv.get hx
    have el : e < s.heap.objs.size := Heap.lt_size he
    have il : it < s.heap.objs.size := by obtain ⟨_, q, _⟩ := hit; exact Heap.lt_size q
    have lt : i < its.toArray.size := by
      rw [List.size_toArray]
      exact (List.getElem?_eq_some_iff.mp hu).1
    have hd : X.A.in1.handled = none := I.ok.hd hc
    refine wpAny_pyNext_enum_itemD (Draws.tuple hd it a ait its.toArray) he ⟨hit, p⟩ lt hne (by simpa using ⟨hne, ae.symm⟩) fun y h' tk hy ho st' hT hsz hk => ?_
    obtain rfl : y = u := by
      have z : its.toArray[i]? = some y := hy
      rw [List.getElem?_toArray, hu] at z
      exact (Option.some.inj z).symm
    refine ⟨_, rfl, wpAny_letOwnedTupleGo_enum (s := { s with heap := h', toks := tk + 1 }) ho fun h'' he' sb => ?_⟩
    have hT2 : h''.get? s.heap.objs.size = some { cls := .type "tuple", data := .seq #[.int i tk, y] } := (sb.2 _ (Nat.ne_of_gt el)).trans hT
    have new : ObjOk X.prog X.w (upd H s.heap.objs.size (.tup [.int (i : Nat), x])) h'' s.heap.objs.size (.tup [.int (i : Nat), x]) :=
      ⟨by show 2 ≤ sizeLine; decide, [.int i tk, y], .cons ⟨_, rfl⟩ (.cons ru .nil), ⟨_, hT2, rfl, _, rfl⟩⟩
    have I1 : Inv X pins σ (upd H s.heap.objs.size (.tup [.int (i : Nat), x])) { s with heap := h'', toks := tk + 1 } :=
      I.turnedNew (ch := [e, it]) (fun b ob hb q => (sb.2 b (fun z => hb (by simp [z]))).trans (hk b ob (fun z => hb (by simp [z])) (fun z => hb (by simp [z])) q)) hf (Nat.le_refl _) new
    refine ⟨.ref s.heap.objs.size, _, I1, rfl, ⟨_, x, rfl, I.hok.fresh (Nat.le_refl _), rfl, fun ys hy => by rw [I.tuple_inj hy hq]; exact hx⟩, ⟨⟨y, ?_⟩, st'.1.at fun o q => (sb.2 it (Ne.symm hne)).trans q, hne⟩, fun b hb => ?_⟩
    · rw [show ((i + 1 : Nat) : Int) = (i : Int) + 1 by omega]
      exact he'
    · have lb : b < s.heap.objs.size := by
        rcases (by simpa using hb : b = e ∨ b = it) with z | z
        · rw [z]
          exact el
        · rw [z]
          exact il
      rw [upd_ne (Nat.ne_of_lt lb)]
      exact (hf b hb).1
  done := by
    intro X hP hw hK hc i pins s σ H E I hf st hg
    subst hP hw hK
    obtain ⟨⟨old, he⟩, hit, hne⟩ := st
    obtain ⟨xs, hq, hx⟩ := hg
    obtain ⟨its, rv, p, hz⟩ := I.tuple hq
    obtain ⟨f0, f1, f2, f3, f4, f5⟩ := hf it (by simp)
    have len : its.toArray.size = i := by rw [List.size_toArray, ← rv.length, hx]
    have hd : X.A.in1.handled = none := I.ok.hd hc
    refine wpAny_pyNext_enum_endD (i := (i : Int)) (Draws.tuple hd it a ait its.toArray) he ⟨by rw [len]; exact hit, p⟩ fun h' eb => ⟨rfl, I.turned (t' := s.toks) (fun b o hb q => eb b o hb q) f0 f1 f3 f4 f5⟩
  self := fun A i s Q E st h => let ⟨⟨_, he⟩, _⟩ := st; wpAny_pyIter_enum he h
def iEnumT (K : PySem.W.Frag) (ta : TA) : TI := fun σ H R => ta σ H fun vs H1 => ∃ a xs, vs = [.ref a] ∧ SqT K H1 a xs ∧ R (ItE K a) H1
theorem pi_enumT {X : Cx} {e : Expr} {ta : TA} {p pos tpos : Pos} {elts : List Expr} {kk : Nat} (hg : Gl X "enumerate") (hm : X.mg "enumerate" = none) (ha : PA X [e] ta) (hs : starEach [e] X.env = [(false, eval e X.env)] := by rfl) :
    PI X (.Tuple elts kk tpos) (.Call (.Name "enumerate" p) [e] [] pos) (iEnumT X.K ta) := by
  refine ⟨fun pins s σ H R I h => ?_⟩
  refine Call_ (ld_blt I hg hm boot_enumerate (PyProof.Rows.callWith_type1 (thn (ha.run pos pins s σ H _ I h) fun us s1 ⟨vs, H1, I1, r1, q1⟩ => ?_) hs rfl))
  obtain ⟨a, xs, rfl, hq, q⟩ := q1
  cases r1 with
  | cons r rr =>
    cases rr
    cases r
    obtain ⟨its, rv, tup, hz⟩ := I1.tuple hq
    have al : a < s1.heap.objs.size := by
      obtain ⟨o, e, _⟩ := tup
      exact Heap.lt_size e
    refine call_enumT tup fun h' he hit hsz hk => wpAny_pyIter_enum he ?_
    have I2 : Inv X pins σ H1 { s1 with heap := h' } := I1.kept (t' := s1.toks) hk
    refine ⟨s1.heap.objs.size + 1, [s1.heap.objs.size + 1, s1.heap.objs.size], _, _, H1, rfl, I2, turn_enumT a (s1.heap.objs.size + 1) s1.heap.objs.size (Nat.ne_of_lt al) (Nat.ne_of_lt (Nat.lt_succ_of_lt al)), ⟨⟨.none, he⟩, hit, Nat.succ_ne_self _⟩, fun b hb => ?_, q⟩
    have le : s1.heap.objs.size ≤ b := by
      rcases (by simpa using hb : b = s1.heap.objs.size + 1 ∨ b = s1.heap.objs.size) with z | z
      · rw [z]
        exact Nat.le_add_right _ _
      · rw [z]
        exact Nat.le_refl _
    exact I1.fpOk le (I1.hok.fresh le)
theorem walk_enumT {K : PySem.W.Frag} {a : Addr} {xs : List V} : Walk (ItE K a) xs.length (fun H => SqT K H a xs) (YPair (fun i => some (.int (i : Nat))) (fun i => xs[i]?)) := by
  refine ⟨fun i _ hi q => ⟨xs, xs[i], q, by simp [hi]⟩, fun _ q => ⟨xs, q, rfl⟩, fun i H v H' _ q y => ?_⟩
  obtain ⟨T, x, h1, h2, h3, h4⟩ := y
  exact ⟨T, .int (i : Nat), x, h1, h2, h3, rfl, h4 xs q⟩
end Cu

namespace Cu
open PySem PySem.Spec PyProof.Rows L2
/-! ### enumerate(text) -/
def ItS (z : Str) : It :=
  ⟨fun i _ => i < z.cps.size, fun i H v H' => ∃ T c, v = .ref T ∧ H T = none ∧ H' = upd H T (.tup [.int (i : Nat), .str ⟨#[c]⟩]) ∧ z.cps[i]? = some c, fun i _ => i = z.cps.size⟩
theorem turn_enumS {P : Program} {w : World} {K : PySem.W.Frag} {elts : List Expr} {kk : Nat} {tpos : Pos} (z : Str) (t : Tok) (e it : Addr) :
    Turn P w K (.Tuple elts kk tpos) (ItS z) [e, it] e (fun i h => (∃ old, IsEnum h e it ((i : Nat) : Int) old) ∧ h.IsStrIter it (strIterType z) z t i ∧ e ≠ it) where
  mem := by simp
  obj := fun i h st b hb => by
    obtain ⟨⟨old, he⟩, ⟨o, ho, hc, hd⟩, _⟩ := st
    rcases (by simpa using hb : b = e ∨ b = it) with q | q
    · rw [q]
      exact ⟨_, he, fun v q => nomatch q⟩
    · rw [q]
      exact ⟨o, ho, fun v q => by rw [hd] at q; cases q⟩
  keep := fun i h h' st k => let ⟨⟨old, he⟩, ⟨o, ho, r⟩, hne⟩ := st; ⟨⟨old, k e (by simp) _ he⟩, ⟨o, k it (by simp) o ho, r⟩, hne⟩
  item := by
    intro X hP hw hK hc i pins s σ H E I hf st hg
    subst hP hw hK
    obtain ⟨⟨old, he⟩, hit, hne⟩ := st
    have el : e < s.heap.objs.size := Heap.lt_size he
    have il : it < s.heap.objs.size := by obtain ⟨_, q, _⟩ := hit; exact Heap.lt_size q
    have hd : X.A.in1.handled = none := I.ok.hd hc
    refine wpAny_pyNext_enum_itemD (Draws.text hd it z t) he hit hg hne (by simpa using hne) fun y h' tk hy ho st' hT hsz hk => ?_
    obtain ⟨c, u, hcc, rfl⟩ := hy
    refine ⟨_, rfl, wpAny_letOwnedTupleGo_enum (s := { s with heap := h', toks := tk + 1 }) ho fun h'' he' sb => ?_⟩
    have hT2 : h''.get? s.heap.objs.size = some { cls := .type "tuple", data := .seq #[.int i tk, .str ⟨#[c]⟩ u] } := (sb.2 _ (Nat.ne_of_gt el)).trans hT
    have new : ObjOk X.prog X.w (upd H s.heap.objs.size (.tup [.int (i : Nat), .str ⟨#[c]⟩])) h'' s.heap.objs.size (.tup [.int (i : Nat), .str ⟨#[c]⟩]) :=
      ⟨by show 2 ≤ sizeLine; decide, [.int i tk, .str ⟨#[c]⟩ u], .cons ⟨_, rfl⟩ (.cons ⟨_, rfl⟩ .nil), ⟨_, hT2, rfl, _, rfl⟩⟩
    have I1 : Inv X pins σ (upd H s.heap.objs.size (.tup [.int (i : Nat), .str ⟨#[c]⟩])) { s with heap := h'', toks := tk + 1 } :=
      I.turnedNew (ch := [e, it]) (fun b ob hb q => (sb.2 b (fun z => hb (by simp [z]))).trans (hk b ob (fun z => hb (by simp [z])) (fun z => hb (by simp [z])) q)) hf (Nat.le_refl _) new
    refine ⟨.ref s.heap.objs.size, _, I1, rfl, ⟨_, c, rfl, I.hok.fresh (Nat.le_refl _), rfl, hcc⟩, ⟨⟨.str ⟨#[c]⟩ u, ?_⟩, ?_, hne⟩, fun b hb => ?_⟩
    · rw [show ((i + 1 : Nat) : Int) = (i : Int) + 1 by omega]
      exact he'
    · obtain ⟨o, eo, r⟩ := st'
      exact ⟨o, (sb.2 it (Ne.symm hne)).trans eo, r⟩
    · have lb : b < s.heap.objs.size := by
        rcases (by simpa using hb : b = e ∨ b = it) with q | q
        · rw [q]
          exact el
        · rw [q]
          exact il
      rw [upd_ne (Nat.ne_of_lt lb)]
      exact (hf b hb).1
  done := by
    intro X hP hw hK hc i pins s σ H E I hf st hg
    subst hP hw hK
    obtain ⟨⟨old, he⟩, hit, hne⟩ := st
    obtain ⟨f0, f1, f2, f3, f4, f5⟩ := hf it (by simp)
    obtain rfl : i = z.cps.size := hg
    have hd : X.A.in1.handled = none := I.ok.hd hc
    exact wpAny_pyNext_enum_endD (i := ((z.cps.size : Nat) : Int)) (Draws.text hd it z t) he hit fun h' eb => ⟨rfl, I.turned (t' := s.toks) (fun b o hb q => eb b o hb q) f0 f1 f3 f4 f5⟩
  self := fun A i s Q E st h => let ⟨⟨_, he⟩, _⟩ := st; wpAny_pyIter_enum he h
def iEnumS (ta : TA) : TI := fun σ H R => ta σ H fun vs H1 => ∃ z, vs = [.str z] ∧ R (ItS z) H1
theorem pi_enumS {X : Cx} {e : Expr} {ta : TA} {p pos tpos : Pos} {elts : List Expr} {kk : Nat} (hg : Gl X "enumerate") (hm : X.mg "enumerate" = none) (ha : PA X [e] ta) (hs : starEach [e] X.env = [(false, eval e X.env)] := by rfl) :
    PI X (.Tuple elts kk tpos) (.Call (.Name "enumerate" p) [e] [] pos) (iEnumS ta) := by
  refine ⟨fun pins s σ H R I h => ?_⟩
  refine Call_ (ld_blt I hg hm boot_enumerate (PyProof.Rows.callWith_type1 (thn (ha.run pos pins s σ H _ I h) fun us s1 ⟨vs, H1, I1, r1, q1⟩ => ?_) hs rfl))
  obtain ⟨z, rfl, q⟩ := q1
  cases r1 with
  | cons r rr =>
    cases rr
    obtain ⟨t, rfl⟩ := r
    refine call_enumerate_str fun h' he hit hsz hk => wpAny_pyIter_enum he ?_
    have I2 : Inv X pins σ H1 { s1 with heap := h' } := I1.kept (t' := s1.toks) hk
    refine ⟨s1.heap.objs.size + 1, [s1.heap.objs.size + 1, s1.heap.objs.size], _, _, H1, rfl, I2, turn_enumS z t (s1.heap.objs.size + 1) s1.heap.objs.size, ⟨⟨.none, he⟩, hit, Nat.succ_ne_self _⟩, fun b hb => ?_, q⟩
    have le : s1.heap.objs.size ≤ b := by
      rcases (by simpa using hb : b = s1.heap.objs.size + 1 ∨ b = s1.heap.objs.size) with q | q
      · rw [q]
        exact Nat.le_add_right _ _
      · rw [q]
        exact Nat.le_refl _
    exact I1.fpOk le (I1.hok.fresh le)
theorem walk_enumS {z : Str} : Walk (ItS z) z.cps.size (fun _ => True) (YPair (fun i => some (.int (i : Nat))) (fun i => z.cps[i]?.map fun c => .str ⟨#[c]⟩)) := by
  refine ⟨fun i _ hi _ => hi, fun _ _ => rfl, fun i H v H' _ _ y => ?_⟩
  obtain ⟨T, c, h1, h2, h3, h4⟩ := y
  exact ⟨T, .int (i : Nat), .str ⟨#[c]⟩, h1, h2, h3, rfl, by show z.cps[i]?.map _ = _; rw [h4]; rfl⟩
end Cu

namespace Cu
open PySem PySem.Spec PyProof.Rows L2
/-! ### any(x in others for x in documents) -/
theorem src_tuple {prog : Program} {w : World} {P t : Addr} {s1 : Shared} {items : Array Value} (ht : s1.heap.IsTuple t items) (hP : P < s1.heap.objs.size) (nP : t ≠ P) : Src prog w P s1 (.ref t) items.size (fun i v => items[i]? = some v) := by
  intro A E Q h hh
  have lt : t < s1.heap.objs.size := by
    obtain ⟨o, e, _⟩ := ht
    exact Heap.lt_size e
  apply wpAny_pyIter_tuple ht
  refine h _ [s1.heap.objs.size, t] _ (fun A' hA => Walks.tuple hA _ t (Nat.ne_of_lt lt) items) ⟨⟨_, Heap.get?_push_size _ rfl, rfl, rfl⟩, ht.push _⟩ ?_
  intro b hb
  rcases List.mem_cons.mp hb with rfl | z
  · exact ⟨Nat.le_refl _, fun e => Nat.lt_irrefl _ (e ▸ hP)⟩
  · rw [List.mem_singleton.mp z]
    exact ⟨Nat.le_of_lt lt, nP⟩
theorem src_list {prog : Program} {w : World} {P t : Addr} {s1 : Shared} {items : Array Value} (ht : s1.heap.IsList t items) (hP : P < s1.heap.objs.size) (nP : t ≠ P) : Src prog w P s1 (.ref t) items.size (fun i v => items[i]? = some v) := by
  intro A E Q h hh
  have lt : t < s1.heap.objs.size := by
    obtain ⟨o, e, _⟩ := ht
    exact Heap.lt_size e
  apply wpAny_pyIter_list ht
  refine h _ [s1.heap.objs.size, t] _ (fun A' hA => Walks.list hA _ t (Nat.ne_of_lt lt) items) ⟨⟨_, Heap.get?_push_size _ rfl, rfl, rfl⟩, ht.at fun o e => Heap.get?_push_of_some _ e⟩ ?_
  intro b hb
  rcases List.mem_cons.mp hb with rfl | z
  · exact ⟨Nat.le_refl _, fun e => Nat.lt_irrefl _ (e ▸ hP)⟩
  · rw [List.mem_singleton.mp z]
    exact ⟨Nat.le_of_lt lt, nP⟩
/-- what a rule for any(..) asks, by the frame's names -/
def GenRs (X : Cx) (P : Addr) (scope : Scope) (x : Str) (elt : Expr) (R : L2.St → V → Hp → Nat → (Nat → Bool) → Prop) : Prop :=
  ∀ pins σ v H1 s1 u n tr, R σ v H1 n tr → GxR.TabG H1 P → Inv X pins σ H1 s1 → RelV v u → P < s1.heap.objs.size → ∃ Pf F, Src X.prog X.w P s1 u n Pf ∧ Calm X P scope x elt s1 Pf F ∧ TruthOf X.prog X.w X.A.in1 F tr
def tAnyG (P : Addr) (te : TE) (R : L2.St → V → Hp → Nat → (Nat → Bool) → Prop) : TE := fun σ H Q => te σ H fun v H1 => GxR.TabG H1 P ∧ ∃ n tr, R σ v H1 n tr ∧ ∀ H2, GxR.Tabbed P H1 H2 → Q (.bl ((List.range n).any tr)) H2
section
variable {X : Cx}
theorem pe_anyG {c P : Addr} {elt iter : Expr} {x : Str} {px p pos gpos : Pos} {scope : Scope} {te : TE} {k : Nat} {R : L2.St → V → Hp → Nat → (Nat → Bool) → Prop}
    (hr : Room k X.A) (hg : Gl X "any") (hm : X.mg "any" = none) (TB : GxR.TabB X.base X.mg c P) (hcode : X.env.code = .ref c) (S : GxR.GenS X.env scope x) (hi : PE X iter te) (rule : GenRs X P scope x elt R)
    (hs : ∀ v, genFold iter X.env v = pure v := by intro _; rfl)
    (he : starEach [.GeneratorExp elt [⟨.Name x px, iter, [], 0⟩] scope gpos] X.env = (false, eval (.GeneratorExp elt [⟨.Name x px, iter, [], 0⟩] scope gpos) X.env) :: starEach [] X.env := by rfl) :
    PE X (.Call (.Name "any" p) [.GeneratorExp elt [⟨.Name x px, iter, [], 0⟩] scope gpos] [] pos) (tAnyG P te R) := by
  constructor
  intro pins s σ H Q I h
  apply wpAny_Call_Name_kw
  apply ld_blt I hg hm (show bootBuiltins "any" = some (.builtin "any") by decide +kernel)
  apply PyProof.Rows.callWith_builtin1 _ he (by rfl)
  rw [he]
  show wpAny _ _ (spliced ((false, eval (.GeneratorExp elt [⟨.Name x px, iter, [], 0⟩] scope gpos) X.env) :: backTo pos (starEach [] X.env))) _ _ s
  apply Calls.spliced_cons
  apply gen_make (R := fun v H1 => ∃ n tr, R σ v H1 n tr ∧ ∀ H2, GxR.Tabbed P H1 H2 → Q (.bl ((List.range n).any tr)) H2) hr TB hcode S hi hs I h
  rintro v H1 s1 u ⟨n, tr, hR, q⟩ tab I1 ru ltP
  obtain ⟨Pf, F, sc, calm, tru⟩ := rule pins σ v H1 s1 u n tr hR tab I1 ru ltP
  refine ⟨n, Pf, F, sc, calm, ?_⟩
  rintro g s5 ⟨fp, wr, G, go, W, st, inv⟩
  apply Calls.spliced_nil
  apply call_any_walkS
  apply W.self 0 _ _ _ st
  refine ⟨g, fp, wr, G, n, F, go, tr, rfl, W, st, tru, ?_⟩
  intro s' mv
  obtain ⟨H2, tb, J⟩ := inv s' mv
  exact ⟨.bl _, H2, J, rfl, q H2 tb⟩
/-- the i-th of xs lies in ys -/
def inAt (xs ys : List V) (i : Nat) : Bool := match xs[i]? with
  | some x => inV x ys
  | none => false
theorem inAt_any (xs ys : List V) : (List.range xs.length).any (inAt xs ys) = xs.any fun x => inV x ys := by
  rw [Bool.eq_iff_iff, List.any_eq_true, List.any_eq_true]
  constructor
  · rintro ⟨i, hi, h⟩
    have lt := List.mem_range.mp hi
    unfold inAt at h
    rw [List.getElem?_eq_getElem lt] at h
    exact ⟨_, List.getElem_mem lt, h⟩
  · rintro ⟨x, hx, h⟩
    obtain ⟨i, lt, e⟩ := List.getElem_of_mem hx
    refine ⟨i, List.mem_range.mpr lt, ?_⟩
    unfold inAt
    rw [List.getElem?_eq_getElem lt, e]
    exact h
def RIn (K : PySem.W.Frag) (j : Nat) : L2.St → V → Hp → Nat → (Nat → Bool) → Prop := fun σ v H n tr => ∃ t p xs ys, v = .ref t ∧ SqT K H t xs ∧ σ[j]? = some (some (.ref p)) ∧ (SqL K H p ys ∨ SqT K H p ys) ∧ xs.all flatV = true ∧ ys.all flatV = true ∧ n = xs.length ∧ tr = inAt xs ys
theorem vals_at : ∀ {xs : List V} {us : List Value} {i : Nat} {u : Value}, Vals xs us → us[i]? = some u → ∃ x, xs[i]? = some x ∧ RelV x u
  | _, _, _, _, .nil, e => by cases e
  | x :: xs, u :: us, 0, _, .cons r t, e => by
    cases e
    exact ⟨x, rfl, r⟩
  | x :: xs, u :: us, i + 1, _, .cons r t, e => vals_at (i := i) t e
theorem vals_len : ∀ {xs : List V} {us : List Value}, Vals xs us → us.length = xs.length
  | _, _, .nil => rfl
  | _, _, .cons _ t => by rw [List.length_cons, List.length_cons, vals_len t]
theorem genR_in {P : Addr} {scope : Scope} {x o : Str} {j : Nat} {p1 p2 p3 : Pos} (hk : scope.kind = .function) (hl : scope.names.lookup x = some .local) (ho : scope.names.lookup o = some .free) (hj : X.N[j]? = some o) (hv : X.env.scope.names.lookup o = some .cell) (hc : X.env.kindOf o = some .cell)
    (clo : ∀ (cells : List (Str × Addr)) c, cells.lookup o = some c → (cloFrom cells scope.names []).lookup o = some c) (hd : (x == ("__debug__" : Str)) = false := by decide) (hd2 : (o == ("__debug__" : Str)) = false := by decide) (hd3 : (o == ("__classdict__" : Str)) = false := by decide) :
    GenRs X P scope x (.Compare (.Name x p1) [.In] [.Name o p2] p3) (RIn X.K j) := by
  rintro pins σ v H1 s1 u n tr ⟨t, p, xs, ys, rfl, hx, hσ, hy, fx, fy, rfl, rfl⟩ ⟨ps, hP, _⟩ I ru ltP
  cases ru
  have isP : s1.heap.get? P = some { cls := .none, data := .fields ps } := I.hok P _ hP
  obtain ⟨its, r, pl, _⟩ := I.tuple hx
  have notP : ∀ b ob, s1.heap.get? b = some ob → (∀ z, ob.data ≠ .fields z) → b ≠ P := by
    intro b ob e nf z
    rw [z, isP] at e
    cases e
    exact nf _ rfl
  have plT : s1.heap.IsTuple t its.toArray := pl
  have tP : t ≠ P := by
    obtain ⟨ob, e, _, m, hd⟩ := pl
    exact notP t ob e fun z e2 => by rw [hd] at e2; cases e2
  obtain ⟨m, _, look⟩ := I.loc
  obtain ⟨u, rp, lk⟩ := look j o _ hj hσ (.inr (.inl hv))
  cases rp
  obtain ⟨c, hcl, hcell⟩ : ∃ c, X.env.cells.lookup o = some c ∧ s1.heap.IsCell c (some (.ref p)) := by
    rcases lk with ⟨k1, _⟩ | ⟨_, k2⟩
    · rw [hc] at k1
      cases k1
    · exact k2
  refine ⟨fun i v => its.toArray[i]? = some v, fun i y => ∃ x, xs[i]? = some x ∧ y = .bool (inV x ys), ?_, ?_, ?_⟩
  · have := src_tuple (prog := X.prog) (w := X.w) plT ltP tP
    rw [List.size_toArray, vals_len r] at this
    exact this
  · intro cenv A' E' i v s2 m2 e1 e2 e3 e4 hh hv2 hn hm keep
    have hv3 : its[i]? = some v := by
      rw [List.getElem?_toArray] at hv2
      exact hv2
    obtain ⟨x', hx', rx⟩ := vals_at r hv3
    have f1 : flatV x' = true := List.all_eq_true.mp fx x' (List.mem_of_getElem? hx')
    have kf : cenv.scope.kind = .function := by rw [e1]; exact hk
    have cell2 : s2.heap.IsCell c (some (.ref p)) := by
      obtain ⟨ob, e, hd⟩ := hcell
      refine ⟨ob, keep c ob ?_ e, hd⟩
      exact notP c ob e fun z e2 => by rw [hd] at e2; cases e2
    refine wpAny_Compare1 ?_ (hm := rfl)
    refine wpAny_Name (wpAny_loadName_local kf (show cenv.scope.names.lookup x = some .local by rw [e1]; exact hl) hn hm ?_) hd
    refine wpAny_Name (wpAny_loadName_free kf (show cenv.scope.names.lookup o = some .free by rw [e1]; exact ho) (by rw [e4]; exact clo _ _ hcl) cell2 ?_ hd3) hd2
    rcases hy with hy | hy
    · obtain ⟨js, r2, pl2, _⟩ := I.list hy
      have l2 : s2.heap.IsList p js.toArray := pl2.isList.at fun ob e => keep p ob (by
        obtain ⟨ob2, e2, _, m, hd⟩ := pl2.isList
        exact notP p ob2 e2 fun z e2 => by rw [hd] at e2; cases e2) e
      refine SeqAt.in_listAt (eqU x') l2 (fun w hw => mem_eqAt rx f1 r2 fy w (by simpa using hw)) ⟨⟨x', hx', ?_⟩, GxR.keeps_refl _⟩
      rw [show js.toArray.any (eqU x') = js.any (eqU x') by simp, any_eqU r2 fy]
      rfl
    · obtain ⟨js, r2, pl2, _⟩ := I.tuple hy
      have pl3 : s1.heap.IsTuple p js.toArray := pl2
      have l2 : s2.heap.IsTuple p js.toArray := pl3.at fun ob e => keep p ob (by
        obtain ⟨ob2, e2, _, m, hd⟩ := pl2
        exact notP p ob2 e2 fun z e2 => by rw [hd] at e2; cases e2) e
      refine SeqAt.in_tupleAt (eqU x') l2 (fun w hw => mem_eqAt rx f1 r2 fy w (by simpa using hw)) ⟨⟨x', hx', ?_⟩, GxR.keeps_refl _⟩
      rw [show js.toArray.any (eqU x') = js.any (eqU x') by simp, any_eqU r2 fy]
      rfl
  · rintro i y s2 Q E ⟨x', hx', rfl⟩ q
    have e : inAt xs ys i = inV x' ys := by
      unfold inAt
      rw [hx']
    rw [e] at q
    exact wpAny_truthy_bool q
end
end Cu

namespace Cu
open PySem PySem.Spec PyProof.Rows L2
/-! ### tuple(a for a, b in pairs if c in b) -/
section
variable {prog : Program} {w : World} {A : Around} {E : Value → Shared → Prop} {s : Shared}
theorem letOwned_tupleiter {elts : List Expr} {x1 : Nat} {pos : Pos} {I l T : Addr} {i : Nat} {Q : Unit → Shared → Prop} (hit : s.heap.IsTupleIter I l i) (hQ : Q () s) :
    wpAny (model prog w) A (letOwnedTupleGo (.Tuple elts x1 pos) (.ref I) (.ref T)) Q E s := by
  obtain ⟨o, ho, hc, hd⟩ := hit
  unfold letOwnedTupleGo
  refine wpAny_bind (wpAny_load ho ?_)
  rw [hc, hd]
  dsimp only
  rw [if_neg]
  · exact wpAny_pure hQ
  · intro z
    rw [Bool.and_eq_true] at z
    exact absurd z.1 (by decide)
end
theorem walks_pairs {prog : Program} {w : World} {A : Around} (hh : A.handled = none) (I ax : Addr) (hne : ax ≠ I) (items : Array Value) (Ts : Nat → Addr) (vals : Nat → Array Value)
    (hit : ∀ j, j < items.size → items[j]? = some (.ref (Ts j))) (hTI : ∀ j, j < items.size → Ts j ≠ I) :
    WalksU prog w A I (I :: ax :: (List.range items.size).map Ts) [I] items.size (fun j v => j < items.size ∧ v = vals j)
      (fun j h => h.IsTupleIter I ax j ∧ h.IsTuple ax items ∧ ∀ k, k < items.size → h.IsTuple (Ts k) (vals k))
      (fun j T h => (j < items.size ∧ T = Ts j) ∧ h.IsTupleIter I ax (j + 1) ∧ h.IsTuple ax items ∧ ∀ k, k < items.size → h.IsTuple (Ts k) (vals k)) where
  sub := fun b m => by
    rw [List.mem_singleton.mp m]
    exact List.mem_cons_self
  frame := by
    rintro i h h' ⟨a1, a2, a3⟩ keep
    refine ⟨a1.at (keep I List.mem_cons_self), a2.at (keep ax (List.mem_cons_of_mem _ List.mem_cons_self)), fun n lt => (a3 n lt).at (keep (Ts n) ?_)⟩
    exact List.mem_cons_of_mem _ (List.mem_cons_of_mem _ (List.mem_map_of_mem (List.mem_range.mpr lt)))
  item := by
    rintro i s Q E lt ⟨a1, a2, a3⟩ q
    apply wpAny_pyNext_tuple_item a1 a2 (hit i lt)
    intro h' now rest
    have all : ∀ n, n < items.size → h'.IsTuple (Ts n) (vals n) := fun n l => (a3 n l).extBut rest.extBut (hTI n l)
    refine q _ _ h' s.toks ⟨lt, rfl⟩ (all i lt) ⟨⟨lt, rfl⟩, now, a2.extBut rest.extBut hne, all⟩ ?_
    intro b o nb e
    exact rest.extBut b o (fun z => nb (z ▸ List.mem_cons_self)) e
  go := by
    rintro _ _ _ i T s Q E ⟨_, a1, a2⟩ q
    exact letOwned_tupleiter a1 (q s.heap ⟨a1, a2⟩ fun _ _ _ e => e)
  apart := by
    rintro i T h ⟨⟨lt, rfl⟩, _⟩ m
    exact hTI i lt (List.mem_singleton.mp m)
  done := by
    rintro s Q E ⟨a1, a2, _⟩ q
    apply wpAny_pyNext_tuple_end hh a1 a2 (by simp)
    intro h' rest
    exact q h' s.toks fun b o nb e => rest b o (fun z => nb (z ▸ List.mem_cons_self)) e
  self := by
    rintro i s Q E ⟨a1, _⟩ q
    exact wpAny_pyIter_tupleiter a1 q
/-- what xv gives when it is walked from the state s1: n pairs -/
def SrcT (prog : Program) (w : World) (P : Addr) (s1 : Shared) (xv : Value) (n : Nat) (Pt : Nat → Array Value → Prop) : Prop :=
  ∀ (A : Around) (E : Value → Shared → Prop) (Q : Value → Shared → Prop),
    (∀ (o : Obj) (fp : List Addr) (go : Nat → Heap → Prop) (Mid : Nat → Addr → Heap → Prop), (∀ A' : Around, A'.handled = none → WalksU prog w A' s1.heap.objs.size fp [s1.heap.objs.size] n Pt go Mid) → go 0 (s1.heap.push o) → (∀ b ∈ fp, b ≤ s1.heap.objs.size ∧ b ≠ P) →
      Q (.ref s1.heap.objs.size) { s1 with heap := s1.heap.push o }) → A.handled = none → wpAny (model prog w) A (pyIter xv) Q E s1
/-- tests and element change nothing -/
def CalmT (X : Cx) (P : Addr) (scope : Scope) (xa xb : Str) (ifs : List Expr) (elt : Expr) (s1 : Shared) (Pt : Nat → Array Value → Prop) (pz : Nat → Bool) (F : Nat → Value → Prop) : Prop :=
  ∀ (cenv : Env) (A' : Around) (E' : Value → Shared → Prop) (i : Nat) (va vb : Value) (s2 : Shared) (m2 : Str → Option Value), cenv.scope = scope → cenv.globals = X.env.globals → cenv.builtins = builtinsNs → cenv.cells = cloFrom X.env.cells scope.names [] →
    A'.handled = none → Pt i #[va, vb] → s2.heap.Ns cenv.locals m2 → m2 xa = some va → m2 xb = some vb → (∀ b u, b ≠ P → s1.heap.get? b = some u → s2.heap.get? b = some u) →
    wpAny (model X.prog X.w) A' (forIn ifs true fun c r => if r = true then do let ok ← isTrue c cenv (eval c cenv); pure (ForInStep.yield ok) else pure (ForInStep.yield r)) (fun ok s3 => ok = pz i ∧ Keeps s2 s3) E' s2 ∧
    (pz i = true → wpAny (model X.prog X.w) A' (eval elt cenv) (fun y s3 => F i y ∧ Keeps s2 s3) E' s2)
/-- the generator g is ready to be walked by a builtin type -/
def SetT (X : Cx) (pins : List (Addr × Obj)) (σ : L2.St) (H1 : Hp) (P : Addr) (n : Nat) (F : Nat → Value → Prop) (g : Addr) (s5 : Shared) : Prop :=
  ∃ (fp wr : List Addr) (G : Array GenState → Array GenState → Prop) (go : Nat → Shared → Prop), WalksS X.prog X.w X.A.in1.in1.in1 g fp wr G n F go ∧ (∀ i s, go i s → s.TypeIs (.ref g) "generator") ∧ go 0 s5 ∧ (∀ b ∈ fp, b < s5.heap.objs.size) ∧ g ∈ fp ∧
    ∀ s', Moved wr G s5 s' → ∃ H2, GxR.Tabbed P H1 H2 ∧ Inv X pins σ H2 s'
section
variable {X : Cx} {pins : List (Addr × Obj)} {σ : L2.St} {H : Hp} {s : Shared}
theorem gen_makeT {c P : Addr} {elt iter : Expr} {xa xb : Str} {pa pb pt gpos : Pos} {kt : Nat} {ifs : List Expr} {scope : Scope} {te : TE} {k : Nat} {Q' : Value → Shared → Prop} {R : V → Hp → Prop}
    (hr : Room k X.A) (TB : GxR.TabB X.base X.mg c P) (hcode : X.env.code = .ref c) (S : GxR.GenS X.env scope xa) (Sb : scope.names.lookup xb = some .local) (hab : xa ≠ xb) (hi : PE X iter te) (hs : ∀ v, genFold iter X.env v = pure v) (I : Inv X pins σ H s)
    (h : te σ H fun v H1 => GxR.TabG H1 P ∧ R v H1)
    (src : ∀ v H1 s1 u, R v H1 → GxR.TabG H1 P → Inv X pins σ H1 s1 → RelV v u → P < s1.heap.objs.size → ∃ n Pt pz F, SrcT X.prog X.w P s1 u n Pt ∧ (∀ i vals, Pt i vals → ∃ va vb, vals = #[va, vb]) ∧ CalmT X P scope xa xb ifs elt s1 Pt pz F ∧
      ∀ g s5, SetT X pins σ H1 P (passing pz n 0).length (fun j y => ∃ i, (passing pz n 0)[j]? = some i ∧ F i y) g s5 → Q' (.ref g) s5) :
    wpAny (model X.prog X.w) X.A (eval (.GeneratorExp elt [⟨.Tuple [.Name xa pa, .Name xb pb] kt pt, iter, ifs, 0⟩] scope gpos) X.env) Q' X.xe s := by
  have dp : X.A.depth < recursionLimit := by
    have := hr.dp
    omega
  apply wpAny_GeneratorExp_walksQT hr.hd S.co (closure_ok S.free) S.cell S.dot S.loc Sb hab S.kind dp _ hs
  refine thn (hi.run pins s σ H _ I h) ?_
  rintro xv s1 ⟨v, H1, I1, r1, tab, hR⟩
  obtain ⟨ps, hP, tr⟩ := id tab
  have isP : s1.heap.get? P = some { cls := .none, data := .fields ps } := I1.hok P _ hP
  have ltP : P < s1.heap.objs.size := Heap.lt_size isP
  obtain ⟨n, Pt, pz, F, sc, two, calm, fin⟩ := src v H1 s1 xv hR tab I1 r1 ltP
  apply sc _ _ _ _ hr.hd
  intro o fp go Mid W st hfp
  have isP2 : (s1.heap.push o).get? P = some { cls := .none, data := .fields ps } := Heap.get?_push_of_some _ isP
  have cd : PySem.W.CodeHd (s1.heap.push o) c P := TB.code.keeps fun b u e => Heap.get?_push_of_some _ (I1.bk b u e)
  have lim2 := I1.nolimit.push o
  refine And.intro lim2 ?_
  have rest : ∀ (code : Value) (h3 : Heap) (tk : Nat) (qs : Array Value), Heap.ExtBut P (s1.heap.push o) h3 → (s1.heap.push o).objs.size ≤ h3.objs.size → h3.get? P = some { cls := .none, data := .fields qs } → (∃ more, qs = ps ++ more) → TriplesOk qs.toList →
      wpAny (model X.prog X.w) X.A (builtinsFor X.env.globals X.env.builtins) (fun bi s4 =>
        ∃ it fp wr n₀ Pt St₀ Mid pz F, Value.ref s1.heap.objs.size = .ref it ∧ (∀ A' : Around, A'.handled = none → WalksU X.prog X.w A' it fp wr n₀ Pt St₀ Mid) ∧ (∀ i vals, Pt i vals → ∃ va vb, vals = #[va, vb]) ∧ St₀ 0 s4.heap ∧ (∀ b ∈ fp, b < s4.heap.objs.size) ∧ s4.heap.NoLimit ∧ cStatics ∉ wr ∧
          (∀ href : Heap, (∀ b o, s4.heap.get? b = some o → href.get? b = some o) → QuietGenT X.prog X.w (genEnv scope (cloFrom X.env.cells scope.names []) s4.heap.objs.size code bi X.env) xa xb ifs elt (List.range s4.heap.objs.size) wr Pt pz F href) ∧
          (∀ a h₅ tk gs, gs.bare = true → s4.heap.objs.size < a → h₅.objs.size = a + 1 → (∀ b o, s4.heap.get? b = some o → h₅.get? b = some o) →
            WalksS X.prog X.w X.A.in4 a (a :: s4.heap.objs.size :: List.range s4.heap.objs.size) (s4.heap.objs.size :: wr) (GenOnlyQ s4.gens.size) (passing pz n₀ 0).length
              (fun j y => ∃ i, (passing pz n₀ 0)[j]? = some i ∧ F i y) (GenAt X.prog X.w X.A.in4 a s4.gens.size s4.heap.objs.size (List.range s4.heap.objs.size) wr pz n₀ F) →
            GenAt X.prog X.w X.A.in4 a s4.gens.size s4.heap.objs.size (List.range s4.heap.objs.size) wr pz n₀ F 0 { s4 with gens := s4.gens.push gs, toks := tk, heap := h₅ } →
            Q' (.ref a) { s4 with gens := s4.gens.push gs, toks := tk, heap := h₅ })) X.xe { s1 with heap := h3, toks := tk } := by
    intro code h3 tk qs ex size isP3 grown tr3
    obtain ⟨bm, ob, b1, b2, b3, b4, b5, b6, b7, b8⟩ := TB.bm
    have old3 : ∀ b u, b ≠ P → s1.heap.get? b = some u → h3.get? b = some u := fun b u nb e => ex b u nb (Heap.get?_push_of_some _ e)
    have itlt : s1.heap.objs.size < h3.objs.size := by
      have q : (s1.heap.push o).objs.size = s1.heap.objs.size + 1 := Heap.size_push ..
      omega
    obtain ⟨mc, nsc, _⟩ := id I1.nolimit
    have ltc : cStatics < s1.heap.objs.size := nsc.lt
    have ncP : cStatics ≠ P := by
      intro e
      obtain ⟨o', es, ep, ho, hd, _⟩ := nsc
      rw [e, isP] at ho
      cases ho
      cases hd
    have gl : h3.Ns X.env.globals X.mg := by
      rw [I1.ok.glob]
      exact ((I1.mod.glob.keeps I1.bk).push o).extBut ex TB.gP
    apply wpAny_builtinsFor gl b1 b2 (old3 _ _ b4 (I1.bk _ _ b5)) b6 b7 b8
    refine ⟨s1.heap.objs.size, fp, [s1.heap.objs.size], n, Pt, go, Mid, pz, F, rfl, W, two, ?_, ?_, lim2.extBut ex ncP, ?_, ?_, ?_⟩
    · exact (W X.A hr.hd).frame _ _ _ st fun b hb u e => ex b u (hfp b hb).2 e
    · intro b hb
      exact Nat.lt_of_le_of_lt (hfp b hb).1 itlt
    · intro z
      rcases List.mem_cons.mp z with z | z
      · exact Nat.ne_of_lt ltc z
      · cases z
    · intro href kept
      have was : ∀ s2 : Shared, (∀ b ∈ List.range h3.objs.size, b ∉ [s1.heap.objs.size] → ∀ o, href.get? b = some o → s2.heap.get? b = some o) → ∀ b u, b ≠ P → s1.heap.get? b = some u → s2.heap.get? b = some u := by
        intro s2 hk b u nb e
        have l1 := Heap.lt_size e
        refine hk b (List.mem_range.mpr (Nat.lt_trans l1 itlt)) ?_ u (kept b u (old3 b u nb e))
        intro z
        rcases List.mem_cons.mp z with z | z
        · exact Nat.ne_of_lt l1 z
        · cases z
      constructor
      · intro A' E' i va vb s2 m2 hA hPv hn hm hm' hk
        exact (calm (genEnv scope (cloFrom X.env.cells scope.names []) h3.objs.size code builtinsNs X.env) A' E' i va vb s2 m2 rfl rfl rfl rfl hA hPv hn hm hm' (was s2 hk)).1
      · intro A' E' i va vb s2 m2 hA hPv hp hn hm hm' hk
        exact (calm (genEnv scope (cloFrom X.env.cells scope.names []) h3.objs.size code builtinsNs X.env) A' E' i va vb s2 m2 rfl rfl rfl rfl hA hPv hn hm hm' (was s2 hk)).2 hp
    · intro g h5 tk5 gs bare lt5 sz5 keep5 W5 at5
      refine fin g _ ⟨_, _, _, _, W5.in4_3, ?_, at5, ?_, List.mem_cons_self, ?_⟩
      · rintro i s ⟨⟨ob, _, _, e, hc, _⟩, _⟩
        exact ⟨ob, e, hc⟩
      · intro b hb
        show b < h5.objs.size
        rw [sz5]
        have lt5' : h3.objs.size < g := lt5
        rcases List.mem_cons.mp hb with z | z
        · rw [z]
          exact Nat.lt_succ_self _
        · rcases List.mem_cons.mp z with z | z
          · rw [z]
            exact Nat.lt_succ_of_lt lt5'
          · exact Nat.lt_succ_of_lt (Nat.lt_trans (List.mem_range.mp z) lt5')
      · intro s' mv
        obtain ⟨more, em⟩ := grown
        have out : ∀ b u, s1.heap.get? b = some u → b ∉ h3.objs.size :: [s1.heap.objs.size] := by
          intro b u e hb
          have l1 : b < s1.heap.objs.size := Heap.lt_size e
          rcases List.mem_cons.mp hb with z | z
          · exact Nat.lt_irrefl _ (Nat.lt_trans (z ▸ l1 : (h3.objs.size : Nat) < s1.heap.objs.size) itlt)
          · rcases List.mem_cons.mp z with z | z
            · exact Nat.ne_of_lt l1 z
            · cases z
        have other : ∀ b u, b ≠ P → s1.heap.get? b = some u → s'.heap.get? b = some u := fun b u nb e => mv.heap b u (out b u e) (keep5 b u (old3 b u nb e))
        have tabNow : s'.heap.get? P = some { cls := .none, data := .fields (ps ++ more) } := by
          rw [← em]
          exact mv.heap P _ (out P _ isP) (keep5 P _ isP3)
        have J := GxR.inv_tab (more := more) (h' := s'.heap) (g' := s'.gens) (d' := s'.drawn) (t' := s'.toks) I1 hP other tabNow (AllBare.movedS (I1.bare.push bare) mv)
        rw [GxR.sh_eta s1 s' mv.os] at J
        refine ⟨upd H1 P (.tbl (ps ++ more)), ⟨⟨ps ++ more, upd_same, ?_⟩, fun b nb => upd_ne nb⟩, J⟩
        rw [← em]
        exact tr3
  cases hit : codeAmong gpos ps.toList with
  | none =>
    apply wpAny_genexprCodeX hcode (cd.code isP2 tr) (cd.tab isP2) hit
    intro c' h' tk ex ge lt co' _ tab' _
    obtain ⟨o1, vs, f1, tf, fl, tg, inF, tx, tt, op, _, _, _, _, _, _, _, _, _, tr', _⟩ := co'
    exact rest _ h' tk _ ex (Nat.le_trans ge (Nat.le_of_lt lt)) tab'.2 ⟨_, rfl⟩ tr'
  | some cv =>
    apply wpAny_genexprCode_hit hcode (cd.code isP2 tr) hit
    exact rest cv (s1.heap.push o) s1.toks ps (Heap.ExtBut.refl _ _) (Nat.le_refl _) isP2 ⟨#[], by simp⟩ tr
/-- a row: where it lies, its first part, where its second part lies, what that holds -/
abbrev Row := Addr × V × Addr × List V
abbrev row0 : Row := (0, .non, 0, [])
/-- v is a tuple of these rows -/
structure Rows_ (K : PySem.W.Frag) (H : Hp) (v : V) (rows : List Row) : Prop where
  at_ : ∃ t, v = .ref t ∧ SqT K H t (rows.map fun r => V.ref r.1)
  each : ∀ r ∈ rows, SqT K H r.1 [r.2.1, .ref r.2.2.1] ∧ SqT K H r.2.2.1 r.2.2.2 ∧ r.2.2.2.all flatV = true
def RRow (P : Addr) (K : PySem.W.Frag) (j : Nat) (σ : L2.St) (Q : VK) (v : V) (H1 : Hp) : Prop := ∃ (rows : List Row) (x0 : V), Rows_ K H1 v rows ∧ σ[j]? = some (some x0) ∧ flatV x0 = true ∧
  ∀ H2, GxR.Tabbed P H1 H2 → ∀ l, H2 l = none → Q (.ref l) (upd H2 l (.tup ((rows.filter fun r => inV x0 r.2.2.2).map fun r => r.2.1)))
def tRows (P : Addr) (te : TE) (K : PySem.W.Frag) (j : Nat) : TE := fun σ H Q => te σ H fun v H1 => GxR.TabG H1 P ∧ RRow P K j σ Q v H1
theorem rows_range (rows : List Row) : (List.range rows.length).map (fun i => rows.getD i row0) = rows := by
  apply List.ext_getElem
  · rw [List.length_map, List.length_range]
  · intro i h1 h2
    rw [List.getElem_map, List.getElem_range, List.getD_eq_getElem?_getD, List.getElem?_eq_getElem h2]
    rfl
theorem rows_vals {K : PySem.W.Frag} {X : Cx} {pins : List (Addr × Obj)} {σ : L2.St} {H : Hp} {s : Shared} (I : Inv X pins σ H s) : ∀ rows : List Row, (∀ r ∈ rows, SqT X.K H r.1 [r.2.1, .ref r.2.2.1]) → ∃ us : List Value, us.length = rows.length ∧
    ∀ i, i < rows.length → RelV (rows.getD i row0).2.1 (us.getD i .none) ∧ s.heap.IsTuple (rows.getD i row0).1 #[us.getD i .none, .ref (rows.getD i row0).2.2.1]
  | [], _ => ⟨[], rfl, fun i h => absurd h (Nat.not_lt_zero _)⟩
  | r :: rs, h => by
    obtain ⟨us, l, hu⟩ := rows_vals (K := K) I rs fun r' m => h r' (List.mem_cons_of_mem _ m)
    obtain ⟨its, vs, pl, _⟩ := I.tuple (h r List.mem_cons_self)
    cases vs with
    | cons r1 t1 =>
      cases t1 with
      | cons r2 t2 =>
        cases t2
        cases r2
        rename_i u0
        refine ⟨u0 :: us, by rw [List.length_cons, List.length_cons, l], fun i hi => ?_⟩
        cases i with
        | zero => exact ⟨r1, pl⟩
        | succ i => exact hu i (Nat.lt_of_succ_lt_succ hi)
theorem vals_of : ∀ {xs : List V} {us : List Value}, xs.length = us.length → (∀ (i : Nat) (u : Value), us[i]? = some u → ∃ x, xs[i]? = some x ∧ RelV x u) → Vals xs us
  | [], [], _, _ => .nil
  | x :: xs, u :: us, l, h => by
    obtain ⟨x', e, r⟩ := h 0 u rfl
    cases e
    exact .cons r (vals_of (Nat.succ.inj l) fun i v hv => h (i + 1) v hv)
  | [], _ :: _, l, _ => by cases l
  | _ :: _, [], l, _ => by cases l
theorem pe_tupG {c P : Addr} {iter : Expr} {xa xb o : Str} {j : Nat} {pa pb pt p pos gpos p1 p2 p3 p4 : Pos} {kt : Nat} {scope : Scope} {te : TE} {k : Nat}
    (hr : Room k X.A) (hg : Gl X "tuple") (hm : X.mg "tuple" = none) (TB : GxR.TabB X.base X.mg c P) (hcode : X.env.code = .ref c) (S : GxR.GenS X.env scope xa) (Sb : scope.names.lookup xb = some .local) (hab : xa ≠ xb) (hi : PE X iter te)
    (ho : scope.names.lookup o = some .free) (hj : X.N[j]? = some o) (hv : X.env.scope.names.lookup o = some .cell) (hc : X.env.kindOf o = some .cell) (clo : ∀ (cells : List (Str × Addr)) c, cells.lookup o = some c → (cloFrom cells scope.names []).lookup o = some c)
    (hs : ∀ v, genFold iter X.env v = pure v := by intro _; rfl) (hd : (xa == ("__debug__" : Str)) = false := by decide) (hdb : (xb == ("__debug__" : Str)) = false := by decide) (hd2 : (o == ("__debug__" : Str)) = false := by decide) (hd3 : (o == ("__classdict__" : Str)) = false := by decide)
    (he : starEach [.GeneratorExp (.Name xa p1) [⟨.Tuple [.Name xa pa, .Name xb pb] kt pt, iter, [.Compare (.Name o p2) [.In] [.Name xb p3] p4], 0⟩] scope gpos] X.env = (false, eval (.GeneratorExp (.Name xa p1) [⟨.Tuple [.Name xa pa, .Name xb pb] kt pt, iter, [.Compare (.Name o p2) [.In] [.Name xb p3] p4], 0⟩] scope gpos) X.env) :: starEach [] X.env := by rfl) :
    PE X (.Call (.Name "tuple" p) [.GeneratorExp (.Name xa p1) [⟨.Tuple [.Name xa pa, .Name xb pb] kt pt, iter, [.Compare (.Name o p2) [.In] [.Name xb p3] p4], 0⟩] scope gpos] [] pos) (tRows P te X.K j) := by
  constructor
  intro pins s σ H Q I h
  apply wpAny_Call_Name_kw
  apply ld_blt I hg hm (show bootBuiltins "tuple" = some (.type "tuple") by decide +kernel)
  apply PyProof.Rows.callWith_type1 _ he (by rfl)
  rw [he]
  show wpAny _ _ (spliced ((false, eval (.GeneratorExp (.Name xa p1) [⟨.Tuple [.Name xa pa, .Name xb pb] kt pt, iter, [.Compare (.Name o p2) [.In] [.Name xb p3] p4], 0⟩] scope gpos) X.env) :: backTo pos (starEach [] X.env))) _ _ s
  apply Calls.spliced_cons
  apply gen_makeT (R := RRow P X.K j σ Q) hr TB hcode S Sb hab hi hs I h
  rintro v H1 s1 u ⟨rows, x0, ⟨⟨t, rfl, sq⟩, each⟩, hσ, f0, q⟩ ⟨ps, hP, _⟩ I1 ru ltP
  cases ru
  have isP : s1.heap.get? P = some { cls := .none, data := .fields ps } := I1.hok P _ hP
  have notP : ∀ b ob, s1.heap.get? b = some ob → (∀ z, ob.data ≠ .fields z) → b ≠ P := by
    intro b ob e nf z
    rw [z, isP] at e
    cases e
    exact nf _ rfl
  have tupP : ∀ b its, s1.heap.IsTuple b its → b ≠ P := by
    rintro b its ⟨ob, e, _, m, hd⟩
    exact notP b ob e fun z e2 => by rw [hd] at e2; cases e2
  obtain ⟨its, vs, pl, small⟩ := I1.tuple sq
  have plT : s1.heap.IsTuple t its.toArray := pl
  have li := vals_len vs
  rw [List.length_map] at li small
  obtain ⟨us, lu, hu⟩ := rows_vals (K := X.K) I1 rows fun r m => (each r m).1
  have mem : ∀ i, i < rows.length → rows.getD i row0 ∈ rows := by
    intro i hi
    rw [List.getD_eq_getElem?_getD, List.getElem?_eq_getElem hi]
    exact List.getElem_mem hi
  obtain ⟨m, _, look⟩ := I1.loc
  obtain ⟨u0, r0, lk⟩ := look j o _ hj hσ (.inr (.inl hv))
  obtain ⟨cc, hcl, hcell⟩ : ∃ c, X.env.cells.lookup o = some c ∧ s1.heap.IsCell c (some u0) := by
    rcases lk with ⟨k1, _⟩ | ⟨_, k2⟩
    · rw [hc] at k1
      cases k1
    · exact k2
  have szT : its.toArray.size = rows.length := by rw [List.size_toArray, li]
  have itemAt : ∀ i, i < its.toArray.size → its.toArray[i]? = some (.ref (rows.getD i row0).1) := by
    intro i hi
    rw [szT] at hi
    have hi2 : i < its.length := by omega
    rw [List.getElem?_toArray, List.getElem?_eq_getElem hi2]
    obtain ⟨x, hx, rx⟩ := vals_at vs (List.getElem?_eq_getElem hi2)
    rw [List.getElem?_map, List.getElem?_eq_getElem hi] at hx
    cases hx
    have e : rows.getD i row0 = rows[i] := by
      rw [List.getD_eq_getElem?_getD, List.getElem?_eq_getElem hi]
      rfl
    rw [e]
    exact congrArg some rx
  have ltH : ∀ b its, s1.heap.IsTuple b its → b < s1.heap.objs.size := by
    rintro b its ⟨ob, e, _⟩
    exact Heap.lt_size e
  refine ⟨its.toArray.size, fun i v => i < its.toArray.size ∧ v = #[us.getD i .none, .ref (rows.getD i row0).2.2.1], fun i => inV x0 (rows.getD i row0).2.2.2, fun i y => i < its.toArray.size ∧ y = us.getD i .none, ?_, ?_, ?_, ?_⟩
  · intro A E Q h hh
    apply wpAny_pyIter_tuple plT
    refine h _ _ _ _ (fun A' hA => walks_pairs hA _ t (Nat.ne_of_lt (ltH _ _ plT)) its.toArray (fun i => (rows.getD i row0).1) (fun i => #[us.getD i .none, .ref (rows.getD i row0).2.2.1]) itemAt fun i hi => Nat.ne_of_lt (ltH _ _ (hu i (szT ▸ hi)).2)) ⟨⟨_, Heap.get?_push_size _ rfl, rfl, rfl⟩, plT.push _, fun i hi => (hu i (szT ▸ hi)).2.push _⟩ ?_
    intro b hb
    rcases List.mem_cons.mp hb with rfl | z
    · exact ⟨Nat.le_refl _, fun e => Nat.lt_irrefl _ (e ▸ ltP)⟩
    · rcases List.mem_cons.mp z with rfl | z
      · exact ⟨Nat.le_of_lt (ltH _ _ plT), tupP _ _ plT⟩
      · obtain ⟨i, mi, rfl⟩ := List.mem_map.mp z
        have hi := List.mem_range.mp mi
        rw [szT] at hi
        exact ⟨Nat.le_of_lt (ltH _ _ (hu i hi).2), tupP _ _ (hu i hi).2⟩
  · rintro i vals ⟨_, rfl⟩
    exact ⟨_, _, rfl⟩
  · intro cenv A' E' i va vb s2 m2 e1 e2 e3 e4 hh hv2 hn hma hmb keep
    obtain ⟨hi, ev⟩ := hv2
    have eva : va = us.getD i .none := by
      have := congrArg (fun a : Array Value => a[0]?) ev
      exact Option.some.inj this
    have evb : vb = .ref (rows.getD i row0).2.2.1 := by
      have := congrArg (fun a : Array Value => a[1]?) ev
      exact Option.some.inj this
    subst eva evb
    have hi2 : i < rows.length := szT ▸ hi
    have kf : cenv.scope.kind = .function := by rw [e1]; exact S.kind
    have cell2 : s2.heap.IsCell cc (some u0) := by
      obtain ⟨ob, e, hd⟩ := hcell
      refine ⟨ob, keep cc ob ?_ e, hd⟩
      exact notP cc ob e fun z e2 => by rw [hd] at e2; cases e2
    obtain ⟨_, sq2, fl⟩ := each _ (mem i hi2)
    obtain ⟨js, r2, pl2, _⟩ := I1.tuple sq2
    have pl3 : s1.heap.IsTuple (rows.getD i row0).2.2.1 js.toArray := pl2
    have l2 : s2.heap.IsTuple (rows.getD i row0).2.2.1 js.toArray := pl3.at fun ob e => keep _ ob (tupP _ _ pl3) e
    constructor
    · simp only [List.forIn_cons, List.forIn_nil]
      refine wpAny_bind ?_
      simp only [if_pos]
      refine wpAny_bind ?_
      refine wpAny_isTrue_Compare1 ?_ (hm := rfl)
      refine wpAny_Name (wpAny_loadName_free kf (show cenv.scope.names.lookup o = some .free by rw [e1]; exact ho) (by rw [e4]; exact clo _ _ hcl) cell2 ?_ hd3) hd2
      refine wpAny_Name (wpAny_loadName_local kf (show cenv.scope.names.lookup xb = some .local by rw [e1]; exact Sb) hn hmb ?_) hdb
      refine SeqAt.in_tupleAt (eqU x0) l2 (fun w hw => mem_eqAt r0 f0 r2 fl w (by simpa using hw)) ?_
      apply wpAny_truthy_bool
      refine wpAny_pure (wpAny_pure ⟨?_, GxR.keeps_refl _⟩)
      rw [show js.toArray.any (eqU x0) = js.any (eqU x0) by simp, any_eqU r2 fl]
      rfl
    · intro _
      exact wpAny_Name (wpAny_loadName_local kf (show cenv.scope.names.lookup xa = some .local by rw [e1]; exact S.loc) hn hma ⟨⟨hi, rfl⟩, GxR.keeps_refl _⟩) hd
  · rintro g s5 ⟨fp, wr, G, go, W, hT, st, hfp, hI, inv⟩
    apply Calls.spliced_nil
    refine call_tuple_gen W hT st hfp hI (fun s' acc mv items => ?_) ?_
    · obtain ⟨H2, tb, J⟩ := inv s' mv
      have ep : (rows.filter fun r => inV x0 r.2.2.2).map (fun r => r.2.1) = (passing (fun i => inV x0 (rows.getD i row0).2.2.2) its.toArray.size 0).map fun i => (rows.getD i row0).2.1 := by
        conv => lhs; rw [← rows_range rows]
        rw [List.filter_map, List.map_map, szT]
        rfl
      have rel : Vals ((rows.filter fun r => inV x0 r.2.2.2).map fun r => r.2.1) acc.toList := by
        rw [ep]
        refine vals_of (by rw [List.length_map]; exact items.1.symm.trans Array.length_toList.symm) ?_
        intro i u hu1
        rw [Array.getElem?_toList] at hu1
        obtain ⟨i', hp, hlt, rfl⟩ := items.2 i u hu1
        refine ⟨_, by rw [List.getElem?_map, hp]; rfl, (hu i' (szT ▸ hlt)).1⟩
      have I2 : Inv X pins σ (upd H2 s'.heap.objs.size (.tup ((rows.filter fun r => inV x0 r.2.2.2).map fun r => r.2.1))) { s' with heap := s'.heap.push { cls := .type "tuple", data := .seq acc } } := by
        refine J.laid (t' := s'.toks) (fun b o e => Heap.get?_push_of_some _ e) (Nat.le_refl _) (show ObjOk X.prog X.w _ _ _ (.tup _) from ⟨?_, acc.toList, rel, ?_⟩)
        · rw [List.length_map]
          exact Nat.le_trans (List.length_filter_le _ _) small
        · rw [Array.toArray_toList]
          exact IsTup.new _ _
      exact ⟨.ref s'.heap.objs.size, _, I2, rfl, q H2 tb _ (J.hok.fresh (Nat.le_refl _))⟩
    · unfold passing
      refine Nat.le_trans (List.length_filter_le _ _) ?_
      rw [List.drop_zero, List.length_range, szT]
      exact small
end
end Cu

namespace Cu
open PySem PySem.Spec PyProof.Rows L2
open PySem.AutoSeq1 (wpAny_loadPart')
/-! ### list.extend(tuple) -/
theorem extend_tuple (l : Addr) (items : Array Value) (n : Nat) (b : Addr) (items2 : Array Value) (n2 : Nat) (dd : Option Addr) (sl : Array (Option Value)) (hs0 : ¬(!items.isEmpty && Builtin.List.listTooLong (items.size + items2.size)) = true) (hs1 : items.size ≤ sizeLine) (hs2 : items.size + items2.size ≤ sizeLine + 1) :
    Meets (Builtin.«list.extend» ⟨[.ref l, .ref b], []⟩) (fun _ R s => s.heap.get? l = some { cls := .type "list", dict := none, data := .seq items n, slots := #[] } ∧ s.heap.get? b = some { cls := .type "tuple", dict := dd, data := .seq items2 n2, slots := sl } ∧ R (.ok (.ret Value.none)) { s with heap := s.heap.update l (Obj.mapSeq fun x => x ++ items2), toks := s.toks }) :=
  .of_wp fun prog w A R s h => by
    obtain ⟨hp, g, d, tk, os⟩ := s
    obtain ⟨hl, hb, h⟩ := h
    have t1 := PySem.AutoSeq1.sub_tuple_tuple
    have t2 := PySem.AutoSeq1.sub_tuple_list
    have fits : (items ++ items2).size ≤ sizeLine + 1 := by
      rw [Array.size_append]
      exact hs2
    wp_walk using (wpAny_updateSeq hl rfl (hz := hs1) (_hz' := fits)), wpAny_loadPart' hl, wpAny_loadPart' hb
    exact ⟨_, rfl, h⟩
section
variable {X : Cx}
def rExtT (K : PySem.W.Frag) : V → List V → Hp → VK → Prop := fun x vs H Q => ∃ l b xs zs, x = .ref l ∧ vs = [.ref b] ∧ H l = some (.lst xs) ∧ SqT K H b zs ∧ xs.length + zs.length ≤ sizeLine ∧ Q .non (upd H l (.lst (xs ++ zs)))
theorem mt_extT : MtM X "list.extend" (rExtT X.K) := by
  intro pins s σ H x vs v us Q I rx rv h
  obtain ⟨l, b, xs, zs, rfl, rfl, hH, hB, hz, q⟩ := h
  cases rx
  obtain ⟨u, rfl, ru⟩ := rv.one
  cases ru
  obtain ⟨z, its, n, r, hl, e⟩ := I.lstM hH
  obtain ⟨js, r2, ⟨⟨cls, dd, data, sl⟩, e2, hc, n2, hd⟩, _⟩ := I.tuple hB
  simp only at hc hd
  subst hc hd
  have l2 := vals_len r2
  have room : its.toArray.size + js.toArray.size ≤ sizeLine := by
    rw [List.size_toArray, List.size_toArray]
    omega
  have short : ¬ (!its.toArray.isEmpty && Builtin.List.listTooLong (its.toArray.size + js.toArray.size)) = true := by
    rw [notLongL room, Bool.and_false]
    exact Bool.false_ne_true
  refine call_meets F.slot_list_extend ⟨_, e, rfl⟩ F.entry_list_extend (F.args_list_extend_2 _ _) (extend_tuple l its.toArray n b js.toArray n2 dd sl short (by rw [List.size_toArray]; omega) (by omega)) ⟨e, e2, ?_⟩
  refine ⟨.non, _, I.lset (its' := its ++ js) hH e (by simp) (r.append r2) ?_, rfl, q⟩
  rw [List.length_append]
  omega
end
end Cu

namespace Cu
open PySem PySem.Spec PyProof.Rows L2
/-! ### what is taken, one after another: by itself, or since it meets something taken before -/
section
variable {α : Type}
def pick1 (p : α → Bool) (t : α → α → Bool) (fs : List α) (r : α) : List α := if p r || fs.any (t r) then fs ++ [r] else fs
def pick (p : α → Bool) (t : α → α → Bool) (l : List α) : List α := l.foldl (pick1 p t) []
theorem pick_snoc (p : α → Bool) (t : α → α → Bool) (l : List α) (r : α) : pick p t (l ++ [r]) = pick1 p t (pick p t l) r := by
  unfold pick
  rw [List.foldl_append]
  rfl
/-- from x to y, each step to something later that meets the one before -/
inductive Path (t : α → α → Bool) : List α → α → α → Prop
  | here (l : List α) (r : α) : Path t (l ++ [r]) r r
  | next {l : List α} {x y : α} (r : α) : Path t l x y → t r y = true → Path t (l ++ [r]) x r
  | keep {l : List α} {x y : α} (r : α) : Path t l x y → Path t (l ++ [r]) x y
theorem snoc_ind {C : List α → Prop} (h0 : C []) (h1 : ∀ l r, C l → C (l ++ [r])) (l : List α) : C l := by
  rw [← List.reverse_reverse l]
  induction l.reverse with
  | nil => exact h0
  | cons r s ih =>
    rw [List.reverse_cons]
    exact h1 _ _ ih
theorem path_nil {t : α → α → Bool} {x y : α} (h : Path t [] x y) : False := by
  generalize e : ([] : List α) = l at h
  cases h with
  | here l r => exact absurd e.symm (by simp)
  | next r _ _ => exact absurd e.symm (by simp)
  | keep r _ => exact absurd e.symm (by simp)
theorem path_snoc {t : α → α → Bool} {l : List α} {r x y : α} (h : Path t (l ++ [r]) x y) : (x = r ∧ y = r) ∨ (y = r ∧ ∃ z, Path t l x z ∧ t r z = true) ∨ Path t l x y := by
  generalize e : l ++ [r] = l2 at h
  cases h with
  | here l' r' =>
    obtain ⟨_, e2⟩ := List.append_inj' e rfl
    cases e2
    exact .inl ⟨rfl, rfl⟩
  | next r' h1 h2 =>
    obtain ⟨e1, e2⟩ := List.append_inj' e rfl
    cases e2
    subst e1
    exact .inr (.inl ⟨rfl, _, h1, h2⟩)
  | keep r' h1 =>
    obtain ⟨e1, e2⟩ := List.append_inj' e rfl
    subst e1
    exact .inr (.inr h1)
theorem path_mem {t : α → α → Bool} {l : List α} {x y : α} (h : Path t l x y) : x ∈ l ∧ y ∈ l := by
  induction h with
  | here l r => exact ⟨by simp, by simp⟩
  | next r _ _ ih => exact ⟨List.mem_append_left _ ih.1, by simp⟩
  | keep r _ ih => exact ⟨List.mem_append_left _ ih.1, List.mem_append_left _ ih.2⟩
theorem mem_pick (p : α → Bool) (t : α → α → Bool) (l : List α) : ∀ y, y ∈ pick p t l ↔ ∃ x, p x = true ∧ Path t l x y := by
  induction l using snoc_ind with
  | h0 =>
    intro y
    constructor
    · intro h
      cases h
    · rintro ⟨x, _, h⟩
      exact absurd h path_nil
  | h1 l r ih =>
    intro y
    rw [pick_snoc]
    unfold pick1
    constructor
    · intro h
      split at h
      · rename_i hb
        rcases List.mem_append.mp h with h | h
        · obtain ⟨x, px, h⟩ := (ih y).mp h
          exact ⟨x, px, .keep r h⟩
        · rw [List.mem_singleton.mp h]
          rcases (Bool.or_eq_true _ _).mp hb with hb | hb
          · exact ⟨r, hb, .here l r⟩
          · obtain ⟨z, mz, tz⟩ := List.any_eq_true.mp hb
            obtain ⟨x, px, h⟩ := (ih z).mp mz
            exact ⟨x, px, .next r h tz⟩
      · obtain ⟨x, px, h⟩ := (ih y).mp h
        exact ⟨x, px, .keep r h⟩
    · rintro ⟨x, px, h⟩
      rcases path_snoc h with ⟨rfl, rfl⟩ | ⟨rfl, z, hz, tz⟩ | h
      · rw [if_pos (by rw [px]; rfl)]
        exact List.mem_append_right _ (List.mem_singleton.mpr rfl)
      · rw [if_pos (by rw [List.any_eq_true.mpr ⟨z, (ih z).mpr ⟨x, px, hz⟩, tz⟩, Bool.or_true])]
        exact List.mem_append_right _ (List.mem_singleton.mpr rfl)
      · have m := (ih y).mpr ⟨x, px, h⟩
        split
        · exact List.mem_append_left _ m
        · exact m
theorem pick_sub (p : α → Bool) (t : α → α → Bool) (l : List α) : (pick p t l).Sublist l := by
  induction l using snoc_ind with
  | h0 => exact List.Sublist.slnil
  | h1 l r ih =>
    rw [pick_snoc]
    unfold pick1
    split
    · exact ih.append (List.Sublist.refl _)
    · exact ih.trans (List.sublist_append_left _ _)
theorem path_cons {t : α → α → Bool} {l : List α} {x y : α} (r : α) (h : Path t l x y) : Path t (r :: l) x y := by
  induction h with
  | here l r' => exact .here (r :: l) r'
  | next r' _ h2 ih => exact .next (l := r :: _) r' ih h2
  | keep r' _ ih => exact .keep (l := r :: _) r' ih
theorem path_head {t : α → α → Bool} (r : α) (l : List α) : Path t (r :: l) r r := by
  induction l using snoc_ind with
  | h0 => exact .here [] r
  | h1 l r' ih => exact .keep (l := r :: l) r' ih
theorem path_first {t : α → α → Bool} {l : List α} {y z : α} (r : α) (h : Path t l y z) (e : t y r = true) : Path t (r :: l) r z := by
  induction h with
  | here l r' => exact .next (l := r :: l) r' (path_head r l) e
  | next r' _ h2 ih => exact .next (l := r :: _) r' (ih e) h2
  | keep r' _ ih => exact .keep (l := r :: _) r' (ih e)
/-- back again -/
theorem path_rev {t : α → α → Bool} {l : List α} {x y : α} (h : Path t l x y) : Path (fun a b => t b a) l.reverse y x := by
  induction h with
  | here l r =>
    rw [List.reverse_append]
    exact path_head r _
  | next r _ h2 ih =>
    rw [List.reverse_append]
    exact path_first r ih h2
  | keep r _ ih =>
    rw [List.reverse_append]
    exact path_cons r ih
theorem path_trans {t : α → α → Bool} {l : List α} (nd : l.Nodup) : ∀ {x y z : α}, Path t l x y → Path t l y z → Path t l x z := by
  induction l using snoc_ind with
  | h0 =>
    intro x y z h
    exact absurd h path_nil
  | h1 l r ih =>
    intro x y z h1 h2
    have out : r ∉ l := fun m => by
      have := (List.nodup_append.mp nd).2.2 r m r (List.mem_singleton.mpr rfl)
      exact this rfl
    have nd' := (List.nodup_append.mp nd).1
    rcases path_snoc h2 with ⟨rfl, rfl⟩ | ⟨rfl, w, hw, tw⟩ | h3
    · exact h1
    · rcases path_snoc h1 with ⟨_, rfl⟩ | ⟨rfl, _⟩ | h1
      · exact absurd (path_mem hw).1 out
      · exact absurd (path_mem hw).1 out
      · exact .next _ (ih nd' h1 hw) tw
    · rcases path_snoc h1 with ⟨_, rfl⟩ | ⟨rfl, _⟩ | h1
      · exact absurd (path_mem h3).1 out
      · exact absurd (path_mem h3).1 out
      · exact .keep _ (ih nd' h1 h3)
/-- two sublists of a list without doubles, with the same members, are the same -/
theorem sub_ext : ∀ {l a b : List α}, l.Nodup → a.Sublist l → b.Sublist l → (∀ x, x ∈ a ↔ x ∈ b) → a = b
  | [], a, b, _, ha, hb, _ => by
    rw [List.sublist_nil.mp ha, List.sublist_nil.mp hb]
  | r :: l, a, b, nd, ha, hb, h => by
    have out := (List.nodup_cons.mp nd).1
    have nd' := (List.nodup_cons.mp nd).2
    cases ha with
    | cons _ ha =>
      cases hb with
      | cons _ hb => exact sub_ext nd' ha hb h
      | cons_cons _ hb => exact absurd (ha.subset ((h r).mpr List.mem_cons_self)) out
    | cons_cons _ ha =>
      cases hb with
      | cons _ hb => exact absurd (hb.subset ((h r).mp List.mem_cons_self)) out
      | cons_cons _ hb =>
        rename_i a' b'
        have : a' = b' := sub_ext nd' ha hb fun x => by
          constructor
          · intro m
            rcases List.mem_cons.mp ((h x).mp (List.mem_cons_of_mem _ m)) with e | e
            · rw [e] at m
              exact absurd (ha.subset m) out
            · exact e
          · intro m
            rcases List.mem_cons.mp ((h x).mpr (List.mem_cons_of_mem _ m)) with e | e
            · rw [e] at m
              exact absurd (hb.subset m) out
            · exact e
        rw [this]
/-- once more over what was taken -/
theorem pick_again (p p2 : α → Bool) (t : α → α → Bool) (l : List α) (nd : l.Nodup) (h : ∀ r ∈ l, p2 r = true ↔ r ∈ pick p t l) : pick p2 t l = pick p t l := by
  refine sub_ext nd (pick_sub _ _ _) (pick_sub _ _ _) fun y => ?_
  rw [mem_pick, mem_pick]
  constructor
  · rintro ⟨x, px, hx⟩
    obtain ⟨x', px', hx'⟩ := (mem_pick p t l x).mp ((h x (path_mem hx).1).mp px)
    exact ⟨x', px', path_trans nd hx' hx⟩
  · rintro ⟨x, px, hx⟩
    have my := (path_mem hx).2
    have xx : Path t l x x := by
      obtain ⟨a, b, e⟩ := List.append_of_mem (path_mem hx).1
      rw [e]
      clear e
      induction b using snoc_ind with
      | h0 => exact .here a x
      | h1 b r ih =>
        rw [show a ++ x :: (b ++ [r]) = (a ++ x :: b) ++ [r] by simp]
        exact .keep r ih
    exact ⟨x, (h x (path_mem hx).1).mpr ((mem_pick p t l x).mpr ⟨x, px, xx⟩), hx⟩
theorem pick_or (p q : α → Bool) (t : α → α → Bool) (l : List α) (y : α) : y ∈ pick (fun r => p r || q r) t l ↔ y ∈ pick p t l ∨ y ∈ pick q t l := by
  rw [mem_pick, mem_pick, mem_pick]
  constructor
  · rintro ⟨x, px, h⟩
    rcases (Bool.or_eq_true _ _).mp px with px | px
    · exact .inl ⟨x, px, h⟩
    · exact .inr ⟨x, px, h⟩
  · rintro (⟨x, px, h⟩ | ⟨x, px, h⟩)
    · exact ⟨x, by rw [px]; rfl, h⟩
    · exact ⟨x, by rw [px, Bool.or_true], h⟩
end
end Cu

namespace Cu
open PySem PySem.Spec PyProof.Rows L2
theorem same_both {F H : Hp} {p : Addr} {o : HO} (s : Same F H) (n : H p = none) : Same (upd F p o) (upd H p o) := fun b x e => by
  by_cases z : b = p
  · subst z
    rw [upd_same] at e ⊢
    exact e
  · rw [upd_ne z] at e ⊢
    exact s b x e
/-! ### what is made beside the hand a: F grows by new objects alone -/
structure Mk (a : Addr) (F H F' H' : Hp) : Prop where
  upto : Upto a H H'
  live : ∃ o, H' a = some o
  sub : Same F' H'
  mono : Same F F'
  fresh : ∀ b o, H b = some o → F b = none → F' b = none
theorem Mk.trans {a : Addr} {F H F1 H1 F2 H2 : Hp} (x : Mk a F H F1 H1) (y : Mk a F1 H1 F2 H2) : Mk a F H F2 H2 := by
  refine ⟨x.upto.trans y.upto, y.live, y.sub, x.mono.trans y.mono, fun b o e n => ?_⟩
  have n1 := x.fresh b o e n
  by_cases z : b = a
  · obtain ⟨o1, e1⟩ := x.live
    exact y.fresh b o1 (z ▸ e1) n1
  · exact y.fresh b o (x.upto b o z e) n1
theorem Mk.draw {a : Addr} {F H H' : Hp} (s : Same F H) (u : Upto a H H') (l : ∃ o, H' a = some o) (fa : F a = none) : Mk a F H F H' :=
  ⟨u, l, same_upto s u fa, Same.refl _, fun _ _ _ n => n⟩
theorem Mk.refl {a : Addr} {F H : Hp} (s : Same F H) (l : ∃ o, H a = some o) : Mk a F H F H := ⟨.refl _ _, l, s, Same.refl _, fun _ _ _ n => n⟩
theorem Mk.new {a p : Addr} {F H : Hp} (o : HO) (s : Same F H) (l : ∃ o, H a = some o) (n : H p = none) : Mk a F H (upd F p o) (upd H p o) := by
  obtain ⟨oa, ea⟩ := l
  refine ⟨.new n, ⟨oa, (upd_ne (ne_of_none ea n)).trans ea⟩, same_both s n, same_upd (s.free n), fun b ob e nb => ?_⟩
  rw [upd_ne (ne_of_none e n)]
  exact nb
theorem Mk.skip {a p : Addr} {F H : Hp} (o : HO) (s : Same F H) (l : ∃ o, H a = some o) (n : H p = none) : Mk a F H F (upd H p o) := by
  obtain ⟨oa, ea⟩ := l
  exact ⟨.new n, ⟨oa, (upd_ne (ne_of_none ea n)).trans ea⟩, s.trans (same_upd n), Same.refl _, fun b ob e nb => nb⟩
theorem Mk.fa {a : Addr} {F H F' H' : Hp} (m : Mk a F H F' H') (l : ∃ o, H a = some o) (fa : F a = none) : F' a = none := by
  obtain ⟨o, e⟩ := l
  exact m.fresh a o e fa
end Cu

namespace Cu
open PySem PySem.Spec PyProof.Rows L2
/-! ### the text -/
def topS (i : Nat) : Stmt := PySem.Challenge.pw_crossundo_k04_edits_applied.main.body.getD i (.Pass ⟨0, 0, 0, 0⟩)
/-- a def that stands, is named, and binds its arguments -/
structure Df (K : PySem.W.Frag) (mg : Str → Option Value) (nm : Str) (st : Stmt) (ps : List Str) (f : Addr) (fd : FuncData) : Prop where
  F : Fun K nm nm st f fd
  g : mg nm = some (.ref f)
  b : Binds K fd ps []
/-- the builtins' names are free -/
structure Bl (mg : Str → Option Value) : Prop where
  len : mg "len" = none
  abs : mg "abs" = none
  int : mg "int" = none
  range : mg "range" = none
  max : mg "max" = none
  min : mg "min" = none
  all : mg "all" = none
  list : mg "list" = none
  enumerate : mg "enumerate" = none
  isinstance : mg "isinstance" = none
  repr : mg "repr" = none
abbrev sHand : Stmt := topS 10
abbrev sTake : Stmt := topS 11
abbrev sOf : Stmt := topS 12
theorem scH : FnScope ["_law_script", "_law_k", "_law_cell", "_law_great"] ["_law_script", "_law_k"] (defScope sHand) := ⟨rfl, rfl, rfl, by decide +kernel, rfl, by decide +kernel, by decide +kernel⟩
theorem scT : FnScope ["_law_hand_here", "_law_many", "_law_digit", "_law_prime", "_law_drawn"] ["_law_hand_here", "_law_many"] (defScope sTake) := ⟨rfl, rfl, rfl, by decide +kernel, rfl, by decide +kernel, by decide +kernel⟩
theorem scO : FnScope ["_law_hand_here", "_law_some"] ["_law_hand_here", "_law_some"] (defScope sOf) := ⟨rfl, rfl, rfl, by decide +kernel, rfl, by decide +kernel, by decide +kernel⟩
section
variable {P : Program} {w : World} {K : PySem.W.Frag} {mg : Str → Option Value} {base : Heap}
/-! ### _law_hand -/
def spHand (K : PySem.W.Frag) : Sp := fun vs H Q _ => ∃ (a : Addr) (k : Int) (ns : List Int), vs = [.ref a, .int k] ∧ SqL K H a (ns.map V.int) ∧ 0 ≤ k ∧ k < 1000 ∧ ∀ H' p, Same H H' → H p = none → Hand H' p 0 → Q (.ref p) H'
theorem big_pos : (0 : Int) < 10 ^ (60 : Int).toNat * 10 ^ (60 : Int).toNat * 10 ^ (60 : Int).toNat := by decide +kernel
theorem big_lt : (10 : Int) ^ (60 : Int).toNat * 10 ^ (60 : Int).toNat * 10 ^ (60 : Int).toNat < 2 ^ 600 := by decide +kernel
theorem ok_hand {f : Addr} {fd : FuncData} {k : Nat} (F : Fun K "_law_hand" "_law_hand" sHand f fd) (T : Bl mg) : FnOk P w K mg base CX0 (k + 1) f fd ["_law_script", "_law_k"] (spHand K) := by
  refine F.ok scH (fun vs H Q E h => ?_) (fun cdv A outer s H vs Q E hr h => ?_)
  · obtain ⟨a, k, ns, rfl, _⟩ := h
    rfl
  · obtain ⟨a, k, ns, rfl, hS, hk0, hk1, q⟩ := h
    refine ⟨_, (pss_cons (ps_set (i := 2) scH.nd rfl (.inl rfl) (pe_ifExp (pt_cmpR op_lt (pv 1) (pe_callB call_len_seq (by rfl) T.len PySem.boot_len (pa_cons (pv 0) pa_nil)) (nomark _)) (pe_ix ix_list (pv 0) (pv 1) (fun _ _ => rfl)) pe_int))
  (pss_cons (ps_set (i := 3) scH.nd rfl (.inl rfl) (pe_op op_mul (pe_op op_mod (pe_callB call_abs (by rfl) T.abs (by decide +kernel) (pa_cons (pv 2) pa_nil)) (pe_op op_mulW (pe_op op_mulW (pe_op op_pow pe_int pe_int) (pe_op op_pow pe_int pe_int)) (pe_op op_pow pe_int pe_int))) (pe_callTy call_int1 (by rfl) T.int (by decide +kernel) (pa_cons (pe_cmpR op_ge (pe_callB call_abs (by rfl) T.abs (by decide +kernel) (pa_cons (pv 2) pa_nil)) (pe_op op_pow pe_int pe_int) (nomark _)) pa_nil))))
  (pss_one (ps_ret (pe_lst (pa_cons (pv 3) (pa_cons (pe_op op_mod (pe_op op_mul (pe_op op_add (pe_op op_add (pe_op op_mod (pv 2) pe_int) (pe_op op_mul pe_int (pv 1))) pe_int) pe_int) pe_int) (pa_cons pe_int pa_nil)))))))), ?_⟩
    refine ⟨.int k, rfl, .ref a, rfl, a, _, rfl, .inl hS, _, _, rfl, rfl, _, rfl, ?_⟩
    refine ifx (fun v => ∃ c : Int, v = .int c) (fun hb all => ?_) ⟨0, rfl⟩ ?_
    · have hb' : k < ((ns.map V.int).length : Int) := of_decide_eq_true hb
      obtain ⟨v, e1, e2⟩ := at_of hk0 hb'
      refine ⟨.ref a, rfl, .int k, rfl, a, _, k, v, rfl, rfl, hS, e2, all v ?_⟩
      rw [List.getElem?_map] at e1
      obtain ⟨z, _, rfl⟩ := Option.map_eq_some_iff.mp e1
      exact ⟨z, rfl⟩
    · rintro v ⟨c, rfl⟩
      refine ⟨.int c, rfl, c, rfl, 10, 60, rfl, rfl, ⟨by decide, by decide, by decide⟩, 10, 60, rfl, rfl, ⟨by decide, by decide, by decide⟩, _, _, rfl, rfl, wide_mul (a := 200) (b := 200) (by decide +kernel) (by decide +kernel) (by decide) (by decide) (by decide),
        10, 60, rfl, rfl, ⟨by decide, by decide, by decide⟩, _, _, rfl, rfl, wide_mul (a := 400) (b := 200) (by decide +kernel) (by decide +kernel) (by decide) (by decide) (by decide), _, _, rfl, rfl, big_pos, ?_⟩
      refine ⟨.int c, rfl, c, rfl, 10, 18, rfl, rfl, ⟨by decide, by decide, by decide⟩, _, _, rfl, rfl, .inr ⟨_, rfl, _, _, rfl, rfl, .inr ?_, ?_⟩⟩
      · exact b01 _
      · have m0 : ∀ z : Int, 0 ≤ z % (10 ^ (60 : Int).toNat * 10 ^ (60 : Int).toNat * 10 ^ (60 : Int).toNat) := fun z => Int.emod_nonneg z (Int.ne_of_gt big_pos)
        have m1 : ∀ z : Int, z % (10 ^ (60 : Int).toNat * 10 ^ (60 : Int).toNat * 10 ^ (60 : Int).toNat) < 2 ^ 600 := fun z => Int.lt_trans (Int.emod_lt_of_pos z big_pos) big_lt
        have n0 : 0 ≤ c % 2147483629 := Int.emod_nonneg c (by decide)
        have n1 : c % 2147483629 < 2147483629 := Int.emod_lt_of_pos c (by decide)
        refine ⟨_, rfl, .int c, rfl, c, 2147483629, rfl, rfl, (show (0 : Int) < 2147483629 by decide), .int k, rfl, 7919, k, rfl, rfl, .inl ⟨by decide, by decide⟩, _, _, rfl, rfl, _, 13, rfl, rfl, _, 48271, rfl, rfl, .inr ⟨by decide, by decide⟩, _, 2147483647, rfl, rfl,
          (show (0 : Int) < 2147483647 by decide), ?_, fun p np => q _ p (same_upd np) np ⟨_, _, 0, upd_same, (b01_mul _ (m0 _) (m1 _)).1, (b01_mul _ (m0 _) (m1 _)).2, Int.emod_nonneg _ (by decide), Int.emod_lt_of_pos _ (by decide), by decide, by decide⟩⟩
        show 3 ≤ sizeLine
        decide
/-! ### _law_take -/
def spTake : Sp := fun vs H Q _ => ∃ (a : Addr) (m : Int) (n : Nat), vs = [.ref a, .int m] ∧ Hand H a n ∧ n < 2 ^ 40 ∧ 0 < m ∧ m < 1073741824 ∧ ∀ H' d, Upto a H H' → Hand H' a (n + 1) → 0 ≤ d → d < m → Q (.int d) H'
theorem prime_of {r : Int} (h0 : 0 ≤ r) (h1 : r < 5) : ∃ p : Int, atI [V.int 2147483647, .int 2147483629, .int 2147483587, .int 2147483579, .int 2147483563] r = some (.int p) ∧ 0 < p := by
  obtain rfl | rfl | rfl | rfl | rfl : r = 0 ∨ r = 1 ∨ r = 2 ∨ r = 3 ∨ r = 4 := by omega
  · exact ⟨_, rfl, by decide⟩
  · exact ⟨_, rfl, by decide⟩
  · exact ⟨_, rfl, by decide⟩
  · exact ⟨_, rfl, by decide⟩
  · exact ⟨_, rfl, by decide⟩
theorem ok_take {f : Addr} {fd : FuncData} {k : Nat} (F : Fun K "_law_take" "_law_take" sTake f fd) (T : Bl mg) : FnOk P w K mg base CX0 (k + 1) f fd ["_law_hand_here", "_law_many"] spTake := by
  refine F.ok scT (fun vs H Q E h => ?_) (fun cdv A outer s H vs Q E hr h => ?_)
  · obtain ⟨a, m, n, rfl, _⟩ := h
    rfl
  · obtain ⟨a, m, n, rfl, ⟨g, x, c, e, g0, g1, x0, x1, c0, c1⟩, hn, m0, m1, q⟩ := h
    refine ⟨_, (pss_cons (ps_if (pt_cmpR op_gt (pe_ix ix_list (pv 0) pe_int (fun _ _ => rfl)) pe_int (nomark _))
  (pss_cons (ps_set (i := 2) scT.nd rfl (.inl rfl) (pe_op op_mod (pe_ix ix_list (pv 0) pe_int (fun _ _ => rfl)) (pv 1)))
  (pss_cons (ps_asg (pe_op op_fdiv (pe_ix ix_list (pv 0) pe_int (fun _ _ => rfl)) (pv 1)) (pg_sub (pv 0) pe_int set_list))
  (pss_one (ps_ret (pv 2)))))
  pss_nil)
  (pss_cons (ps_asg (pe_op op_add (pe_ix ix_list (pv 0) pe_int (fun _ _ => rfl)) pe_int) (pg_sub (pv 0) pe_int set_list))
  (pss_cons (ps_set (i := 3) scT.nd rfl (.inl rfl) (pe_ix ix_list (pe_lst (pa_cons pe_int (pa_cons pe_int (pa_cons pe_int (pa_cons pe_int (pa_cons pe_int pa_nil)))))) (pe_op op_mod (pe_ix ix_list (pv 0) pe_int (fun _ _ => rfl)) pe_int) (fun _ _ => rfl)))
  (pss_cons (ps_set (i := 4) scT.nd rfl (.inl rfl) (pe_op op_mod (pe_op op_pow (pe_op op_add (pe_ix ix_list (pv 0) pe_int (fun _ _ => rfl)) (pe_op op_mul pe_int (pe_ix ix_list (pv 0) pe_int (fun _ _ => rfl)))) pe_int) (pv 3)))
  (pss_one (ps_ret (pe_op op_mod (pe_op op_fdiv (pe_op op_mod (pe_op op_mul (pv 4) (pe_op op_add (pe_op op_mod (pv 4) pe_int) (pe_ix ix_list (pv 0) pe_int (fun _ _ => rfl)))) (pv 3)) pe_int) (pv 1)))))))), ?_⟩
    refine ⟨.ref a, rfl, a, _, 0, .int g, rfl, rfl, SqL.of e, rfl, g, 0, rfl, rfl, _, rfl, ite2 (fun hb => ?_) (fun hb => ?_)⟩
    · refine ⟨.ref a, rfl, a, _, 0, .int g, rfl, rfl, SqL.of e, rfl, .int m, rfl, g, m, rfl, rfl, m0, ?_⟩
      refine ⟨.ref a, rfl, a, _, 0, .int g, rfl, rfl, SqL.of e, rfl, .int m, rfl, g, m, rfl, rfl, ⟨m0, m1⟩, .ref a, rfl, a, _, 0, 0, rfl, rfl, e, rfl, ?_⟩
      refine ⟨_, rfl, q _ _ Upto.upd ⟨_, x, c, upd_same, Int.ediv_nonneg g0 (by omega), ?_, x0, x1, c0, by omega⟩ (Int.emod_nonneg _ (by omega)) (Int.emod_lt_of_pos _ m0)⟩
      exact Int.lt_of_le_of_lt (Int.ediv_le_self _ g0) g1
    · refine ⟨.ref a, rfl, a, _, 2, .int c, rfl, rfl, SqL.of e, rfl, c, 1, rfl, rfl, .ref a, rfl, a, _, 2, 2, rfl, rfl, e, rfl, ?_⟩
      have e1 : (upd H a (.lst [.int g, .int x, .int (c + 1)])) a = some (.lst [.int g, .int x, .int (c + 1)]) := upd_same
      refine ⟨by show 5 ≤ sizeLine; decide, fun l nl => ?_⟩
      have nla : a ≠ l := ne_of_none e1 nl
      have e2 : ∀ o, (upd (upd H a (.lst [.int g, .int x, .int (c + 1)])) l o) a = some (.lst [.int g, .int x, .int (c + 1)]) := fun o => by rw [upd_ne nla]; exact e1
      obtain ⟨p, hp, p0⟩ := prime_of (r := (c + 1) % 5) (Int.emod_nonneg _ (by decide)) (Int.emod_lt_of_pos _ (by decide))
      refine ⟨.ref a, rfl, a, _, 2, .int (c + 1), rfl, rfl, SqL.of (e2 _), rfl, c + 1, 5, rfl, rfl, (show (0 : Int) < 5 by decide), l, _, _, _, rfl, rfl, SqL.of upd_same, hp, ?_⟩
      refine ⟨.ref a, rfl, a, _, 1, .int x, rfl, rfl, SqL.of (e2 _), rfl, .ref a, rfl, a, _, 2, .int (c + 1), rfl, rfl, SqL.of (e2 _), rfl, 7919, c + 1, rfl, rfl, .inl ⟨by decide, by decide⟩, x, _, rfl, rfl, _, 3, rfl, rfl, ⟨by decide, by decide, by omega⟩, .int p, rfl, _, p, rfl, rfl, p0, ?_⟩
      refine ⟨_, rfl, _, rfl, _, 1009, rfl, rfl, (show (0 : Int) < 1009 by decide), .ref a, rfl, a, _, 2, .int (c + 1), rfl, rfl, SqL.of (e2 _), rfl, _, _, rfl, rfl, _, _, rfl, rfl, .inr ?_, .int p, rfl, _, p, rfl, rfl, p0, _, 11, rfl, rfl, ⟨by decide, by decide⟩, .int m, rfl, _, m, rfl, rfl, m0, ?_⟩
      · have := Int.emod_nonneg ((x + 7919 * (c + 1)) ^ (3 : Int).toNat % p) (show (1009 : Int) ≠ 0 by decide)
        have := Int.emod_lt_of_pos ((x + 7919 * (c + 1)) ^ (3 : Int).toNat % p) (show (0 : Int) < 1009 by decide)
        constructor <;> omega
      · refine q _ _ ((Upto.upd).trans (.new nl)) ⟨g, x, c + 1, e2 _, g0, g1, x0, x1, by omega, by omega⟩ (Int.emod_nonneg _ (by omega)) (Int.emod_lt_of_pos _ m0)
/-! ### _law_of, of a text -/
def spOfS : Sp := fun vs H Q _ => ∃ (a : Addr) (z : Str) (n : Nat), vs = [.ref a, .str z] ∧ Hand H a n ∧ n < 2 ^ 40 ∧ 0 < z.length ∧ z.length ≤ 1000 ∧ ∀ H' c, Upto a H H' → Hand H' a (n + 1) → c ∈ z.cps.toList → Q (.str ⟨#[c]⟩) H'
theorem ok_ofS {f fT : Addr} {fd fdT : FuncData} {k : Nat} (F : Fun K "_law_of" "_law_of" sOf f fd) (DT : Df K mg "_law_take" sTake ["_law_hand_here", "_law_many"] fT fdT) (T : Bl mg) : FnOk P w K mg base CX0 (k + 2) f fd ["_law_hand_here", "_law_some"] spOfS := by
  have GT : FnOk P w K mg base CX0 1 fT fdT _ spTake := ok_take DT.F T
  refine F.ok scO (fun vs H Q E h => ?_) (fun cdv A outer s H vs Q E hr h => ?_)
  · obtain ⟨a, m, n, rfl, _⟩ := h
    rfl
  · obtain ⟨a, z, n, rfl, hH, hn, z0, z1, q⟩ := h
    refine ⟨_, (pss_one (ps_ret (pe_ix ix_str (pv 1) (pe_call GT (hr.mono (by omega)) (by rfl) DT.g DT.F.kp DT.b .nil pass0 (pa_cons (pv 0) (pa_cons (pe_callB call_len_str (by rfl) T.len PySem.boot_len (pa_cons (pv 1) pa_nil)) pa_nil))) (fun _ _ => rfl)))), ?_⟩
    have zl : z.length ≤ sizeLine := Nat.le_trans z1 (by decide)
    refine ⟨.str z, rfl, .ref a, rfl, .str z, rfl, z, rfl, zl, a, _, n, rfl, hH, hn, by omega, by omega, fun H' d u h' d0 d1 => ?_⟩
    obtain ⟨c, e1, e2⟩ := at_of (xs := z.cps.toList) d0 (by rw [Array.length_toList]; exact d1)
    exact ⟨z, d, c, rfl, rfl, zl, e2, q H' c u h' (List.mem_of_getElem? e1)⟩
/-! ### _law_of, of a list -/
def spOfL : Sp := fun vs H Q _ => ∃ (a l : Addr) (xs : List V) (n : Nat), vs = [.ref a, .ref l] ∧ Hand H a n ∧ n < 2 ^ 40 ∧ l ≠ a ∧ H l = some (.lst xs) ∧ 0 < xs.length ∧ xs.length ≤ 1000 ∧ ∀ H' v, Upto a H H' → Hand H' a (n + 1) → v ∈ xs → Q v H'
theorem ok_ofL {f fT : Addr} {fd fdT : FuncData} {k : Nat} (F : Fun K "_law_of" "_law_of" sOf f fd) (DT : Df K mg "_law_take" sTake ["_law_hand_here", "_law_many"] fT fdT) (T : Bl mg) : FnOk P w K mg base CX0 (k + 2) f fd ["_law_hand_here", "_law_some"] spOfL := by
  have GT : FnOk P w K mg base CX0 1 fT fdT _ spTake := ok_take DT.F T
  refine F.ok scO (fun vs H Q E h => ?_) (fun cdv A outer s H vs Q E hr h => ?_)
  · obtain ⟨a, l, xs, n, rfl, _⟩ := h
    rfl
  · obtain ⟨a, l, xs, n, rfl, hH, hn, la, el, x0, x1, q⟩ := h
    refine ⟨_, (pss_one (ps_ret (pe_ix ix_list (pv 1) (pe_call GT (hr.mono (by omega)) (by rfl) DT.g DT.F.kp DT.b .nil pass0 (pa_cons (pv 0) (pa_cons (pe_callB call_len_seq (by rfl) T.len PySem.boot_len (pa_cons (pv 1) pa_nil)) pa_nil))) (fun _ _ => rfl)))), ?_⟩
    refine ⟨.ref l, rfl, .ref a, rfl, .ref l, rfl, l, xs, rfl, .inl (SqL.of el), a, _, n, rfl, hH, hn, by omega, by omega, fun H' d u h' d0 d1 => ?_⟩
    obtain ⟨v, e1, e2⟩ := at_of (xs := xs) d0 d1
    exact ⟨l, xs, d, v, rfl, rfl, SqL.of (u l _ la el), e2, q H' v u h' (List.mem_of_getElem? e1)⟩
end
end Cu

namespace Cu
open PySem PySem.Spec PyProof.Rows L2
/-! ### the mathematics of an edit -/
def fitB (c : Str) (p : Nat) (r : Str) : Bool := decide (p ≤ c.length) && decide (((tl c).drop p).take r.length = tl r)
def applyS (c : Str) (p : Nat) (r i : Str) : Str := mkS ((tl c).take p ++ tl i ++ (tl c).drop (p + r.length))
theorem applyS_tl (c : Str) (p : Nat) (r i : Str) : tl (applyS c p r i) = (tl c).take p ++ tl i ++ (tl c).drop (p + r.length) := tl_mk _
theorem fit_le {c : Str} {p : Nat} {r : Str} (h : fitB c p r = true) : p ≤ c.length ∧ ((tl c).drop p).take r.length = tl r ∧ p + r.length ≤ c.length := by
  unfold fitB at h
  rw [Bool.and_eq_true] at h
  have h1 := of_decide_eq_true h.1
  have h2 := of_decide_eq_true h.2
  refine ⟨h1, h2, ?_⟩
  have e := congrArg List.length h2
  rw [List.length_take, List.length_drop, tl_len, tl_len] at e
  omega
theorem applyS_len {c : Str} {p : Nat} {r : Str} (i : Str) (h : fitB c p r = true) : (applyS c p r i).length + r.length = c.length + i.length := by
  obtain ⟨h1, h2, h3⟩ := fit_le h
  rw [← tl_len, applyS_tl, List.length_append, List.length_append, List.length_take, List.length_drop, tl_len, tl_len]
  omega
theorem fit_back {c : Str} {p : Nat} {r : Str} (i : Str) (h : fitB c p r = true) : fitB (applyS c p r i) p i = true := by
  obtain ⟨h1, h2, h3⟩ := fit_le h
  have l := applyS_len i h
  have lt : ((tl c).take p).length = p := by rw [List.length_take, tl_len]; omega
  unfold fitB
  rw [Bool.and_eq_true]
  refine ⟨decide_eq_true (by omega), decide_eq_true ?_⟩
  rw [applyS_tl, List.append_assoc, List.drop_append_of_le_length (by omega), List.drop_eq_nil_of_le (by omega), List.nil_append, ← tl_len, List.take_left]
theorem apply_back {c : Str} {p : Nat} {r : Str} (i : Str) (h : fitB c p r = true) : applyS (applyS c p r i) p i r = c := by
  obtain ⟨h1, h2, h3⟩ := fit_le h
  have lt : ((tl c).take p).length = p := by rw [List.length_take, tl_len]; omega
  apply ext_t
  rw [applyS_tl, applyS_tl, List.append_assoc, List.append_assoc]
  have e1 : ((tl c).take p ++ (tl i ++ (tl c).drop (p + r.length))).take p = (tl c).take p := by
    rw [List.take_append_of_le_length (by omega), List.take_of_length_le (by omega)]
  have e2 : ((tl c).take p ++ (tl i ++ (tl c).drop (p + r.length))).drop (p + i.length) = (tl c).drop (p + r.length) := by
    rw [← List.append_assoc]
    apply List.drop_left'
    rw [List.length_append, lt, tl_len]
  rw [e1, e2, ← h2, ← List.drop_drop, List.take_append_drop, List.take_append_drop]
theorem asc_apply {c : Str} {p : Nat} {r i : Str} (hc : Asc c) (hi : Asc i) : Asc (applyS c p r i) := fun x m => by
  rw [applyS_tl, List.mem_append, List.mem_append] at m
  rcases m with (m | m) | m
  · exact hc x (List.mem_of_mem_take m)
  · exact hi x m
  · exact hc x (List.mem_of_mem_drop m)
/-! ### the program -/
abbrev sFits : Stmt := topS 7
abbrev sApply : Stmt := topS 8
def bodyOf : Stmt → List Stmt
  | .ClassDef _ _ _ b _ _ _ _ _ _ _ => b
  | _ => []
abbrev sInit : Stmt := (bodyOf (topS 5)).getD 0 (.Pass ⟨0, 0, 0, 0⟩)
abbrev pFits : List Str := ["content", "edit"]
theorem scF : FnScope ["content", "edit", "document", "position", "removed", "inserted"] pFits (defScope sFits) := ⟨rfl, rfl, rfl, by decide +kernel, rfl, by decide +kernel, by decide +kernel⟩
theorem scA : FnScope ["content", "edit", "document", "position", "removed", "inserted"] pFits (defScope sApply) := ⟨rfl, rfl, rfl, by decide +kernel, rfl, by decide +kernel, by decide +kernel⟩
theorem scN : FnScope ["self", "document"] ["self", "document"] (defScope sInit) := ⟨rfl, rfl, rfl, by decide +kernel, rfl, by decide +kernel, by decide +kernel⟩
/-- the error's class at C, its __init__ at fI -/
structure Er (K : PySem.W.Frag) (mg : Str → Option Value) (C fI : Addr) : Prop where
  g : mg "EditMismatch" = some (.ref C)
  o : OexC K C
  xf : XfC K C
  ec : ExcC K C
  no : PySem.W.findIn K (.ref C) "document" = some none
  iC : PySem.W.findIn K (.ref C) "__init__" = some (some (.ref fI))
  tI : PySem.W.typeIn K (.ref fI) = some (.type "function")
section
variable {P : Program} {w : World} {K : PySem.W.Frag} {mg : Str → Option Value} {base : Heap}
theorem ok_init {C fI : Addr} {fd : FuncData} {k : Nat} (F : Fun K "__init__" "EditMismatch.__init__" sInit fI fd) (R : Er K mg C fI) : FnOk P w K mg base CX0 (k + 1) fI fd ["self", "document"] (spInit1 C "document") := by
  refine F.ok scN (fun vs H Q E h => ?_) (fun cdv A outer s H vs Q E hr h => ?_)
  · obtain ⟨a, v, rfl, _⟩ := h
    rfl
  · obtain ⟨a, v, rfl, ea, q⟩ := h
    refine ⟨_, (pss_one (ps_ost (pv 0) (pv 1))), ?_⟩
    exact ⟨v, rfl, .ref a, rfl, a, C, rfl, R.o, R.no, .inl ⟨ea, fun dx nd ne => q dx nd ne⟩⟩
def spFits (K : PySem.W.Frag) : Sp := fun vs H Q _ => ∃ (c r : Str) (e : Addr) (d i : V) (p : Nat), vs = [.str c, .ref e] ∧ SqT K H e [d, .int (p : Int), .str r, i] ∧ c.length ≤ sizeLine ∧ r.length ≤ sizeLine ∧ Q (.bl (fitB c p r)) H
theorem ok_fits {f : Addr} {fd : FuncData} {k : Nat} (F : Fun K "fits" "fits" sFits f fd) (T : Bl mg) : FnOk P w K mg base CX0 (k + 1) f fd pFits (spFits K) := by
  refine F.ok scF (fun vs H Q E h => ?_) (fun cdv A outer s H vs Q E hr h => ?_)
  · obtain ⟨c, r, e, d, i, p, rfl, _⟩ := h
    rfl
  · obtain ⟨c, r, e, d, i, p, rfl, hS, hc, hl, q⟩ := h
    refine ⟨_, (pss_cons (ps_asg (pv 1) (pg_tup rfl (pgs_cons (pg_name (i := 2) scF.nd rfl (.inl rfl)) (pgs_cons (pg_name (i := 3) scF.nd rfl (.inl rfl)) (pgs_cons (pg_name (i := 4) scF.nd rfl (.inl rfl)) (pgs_cons (pg_name (i := 5) scF.nd rfl (.inl rfl)) pgs_nil))))))
  (pss_cons (ps_if (pt_cmpR op_gt (pv 3) (pe_callB call_len_str (by rfl) T.len PySem.boot_len (pa_cons (pv 0) pa_nil)) (nomark _))
  (pss_one (ps_ret pe_bl))
  pss_nil)
  (pss_one (ps_ret (pe_cmpR op_eq (pe_slice sl_str (pv 0) (po_some (pv 3)) (po_some (pe_op op_add (pv 3) (pe_callB call_len_str (by rfl) T.len PySem.boot_len (pa_cons (pv 4) pa_nil))))) (pv 4) (nomark _)))))), ?_⟩
    refine ⟨.ref e, rfl, e, _, rfl, hS, rfl, _, _, rfl, _, _, rfl, _, _, rfl, _, _, rfl, rfl, ?_⟩
    refine ⟨.int p, rfl, .str c, rfl, c, rfl, hc, p, c.length, rfl, rfl, _, rfl, ite2 (fun hb => ?_) (fun hb => ?_)⟩
    · have hb' : (c.length : Int) < p := of_decide_eq_true hb
      have e : fitB c p r = false := by
        unfold fitB
        rw [decide_eq_false (by omega), Bool.false_and]
      rw [e] at q
      exact q
    · have hb' : ¬ (c.length : Int) < p := fun z => hb (decide_eq_true z)
      refine ⟨.str c, rfl, .int p, rfl, p, rfl, .int p, rfl, .str r, rfl, r, rfl, hl, p, r.length, rfl, rfl, _, rfl, c, rfl, hc, .str r, rfl, rfl, ?_⟩
      have e : decide (V.str (cutS c (some (p : Int)) (some ((p : Int) + r.length))) = V.str r) = fitB c p r := by
        unfold fitB
        rw [decide_eq_true (show p ≤ c.length by omega), Bool.true_and]
        have ec := cut_both c p (p + r.length)
        rw [Nat.add_sub_cancel_left] at ec
        have ei : ((p : Int) + r.length) = ((p + r.length : Nat) : Int) := by omega
        rw [ei]
        by_cases h : ((tl c).drop p).take r.length = tl r
        · rw [decide_eq_true h]
          refine decide_eq_true ?_
          rw [ext_t (ec.trans h)]
        · rw [decide_eq_false h]
          refine decide_eq_false fun z => h ?_
          rw [← ec, V.str.inj z]
      rw [e]
      exact q
def spApplyX (K : PySem.W.Frag) (C : Addr) : Sp := fun vs H Q E => ∃ (c r i : Str) (e : Addr) (d : V) (p : Nat), vs = [.str c, .ref e] ∧ SqT K H e [d, .int (p : Int), .str r, .str i] ∧ c.length ≤ 1000000 ∧ r.length ≤ 1000000 ∧ i.length ≤ 1000000 ∧
  (fitB c p r = true → Q (.str (applyS c p r i)) H) ∧ (fitB c p r = false → ∀ dx, H dx = none → E (.ref C) (some dx) (upd H dx (.xd [("document", d)])))
theorem ok_apply {f fF C fI : Addr} {fd fdF fdI : FuncData} (F : Fun K "apply" "apply" sApply f fd) (DF : Df K mg "fits" sFits pFits fF fdF) (FI : Fun K "__init__" "EditMismatch.__init__" sInit fI fdI) (bI : Binds K fdI ["self", "document"] []) (R : Er K mg C fI) (T : Bl mg) : FnOk P w K mg base (L2.CX P w) 3 f fd pFits (spApplyX K C) := by
  have GF : FnOk P w K mg base CX0 1 fF fdF _ (spFits K) := ok_fits DF.F T
  have GI : FnOk P w K mg base CX0 1 fI fdI _ (spInit1 C "document") := ok_init FI R
  refine F.okX scA (fun vs H Q E h => ?_) (fun cdv A outer s H vs Q E hr h => ?_)
  · obtain ⟨c, r, i, e, d, p, rfl, _⟩ := h
    rfl
  · obtain ⟨c, r, i, e, d, p, rfl, hS, hc, hl, hi, q1, q2⟩ := h
    refine ⟨_, (pss_cons (ps_asg (pv 1) (pg_tup rfl (pgs_cons (pg_name (i := 2) scA.nd rfl (.inl rfl)) (pgs_cons (pg_name (i := 3) scA.nd rfl (.inl rfl)) (pgs_cons (pg_name (i := 4) scA.nd rfl (.inl rfl)) (pgs_cons (pg_name (i := 5) scA.nd rfl (.inl rfl)) pgs_nil))))))
  (pss_cons (ps_if (pt_not (pt_val (pe_call GF (hr.mono (by decide)) (by rfl) DF.g DF.F.kp DF.b .nil pass0 (pa_cons (pv 0) (pa_cons (pv 1) pa_nil)))))
  (pss_one (ps_raise rfl (takes_of rfl rfl rfl rfl) (pmk_oex R.o R.iC R.tI GI hr bI .nil pass0 (by rfl) R.g (pa_cons (pv 2) pa_nil))))
  pss_nil)
  (pss_one (ps_ret (pe_op op_add_str (pe_op op_add_str (pe_slice sl_str (pv 0) po_none (po_some (pv 3))) (pv 5)) (pe_slice sl_str (pv 0) (po_some (pe_op op_add (pv 3) (pe_callB call_len_str (by rfl) T.len PySem.boot_len (pa_cons (pv 4) pa_nil)))) po_none)))))), ?_⟩
    have z1 : (1000000 : Nat) ≤ sizeLine := by decide
    have z3 : (3000000 : Nat) ≤ sizeLine := by decide
    refine ⟨.ref e, rfl, e, _, rfl, hS, rfl, _, _, rfl, _, _, rfl, _, _, rfl, _, _, rfl, rfl, ?_⟩
    refine ⟨.str c, rfl, .ref e, rfl, c, r, e, d, .str i, p, rfl, hS, by omega, by omega, _, rfl, ?_⟩
    cases hf : fitB c p r with
    | false =>
      refine iffT rfl ?_
      exact raise1 (fun R h => ⟨d, rfl, h⟩) fun dx nd => q2 hf dx nd
    | true =>
    refine iffF rfl ?_
    have l1 := cutS_length c none (some (p : Int))
    have l2 := cutS_length c (some ((p : Int) + r.length)) none
    refine ⟨.str c, rfl, .int p, rfl, p, rfl, c, rfl, by omega, .str i, rfl, _, i, rfl, rfl, by omega, .str c, rfl, .int p, rfl, .str r, rfl, r, rfl, by omega, p, r.length, rfl, rfl, _, rfl, c, rfl, by omega, _, _, rfl, rfl, ?_, ?_⟩
    · rw [strLen_append]
      omega
    · have ei : ((p : Int) + r.length) = ((p + r.length : Nat) : Int) := by omega
      have e : cutS c none (some (p : Int)) ++ i ++ cutS c (some ((p : Int) + r.length)) none = applyS c p r i := by
        apply ext_t
        rw [applyS_tl, tl_app, tl_app, cut_left, ei, cut_right]
      rw [e]
      exact q1 hf
end
end Cu

namespace Cu
open PySem PySem.Spec PyProof.Rows L2
/-! ### _law_outcome -/
abbrev sOut : Stmt := topS 14
abbrev pOut : List Str := ["_law_content", "_law_edit"]
theorem scU : FnScope ["_law_content", "_law_edit", "_law_caught", "e"] pOut (defScope sOut) := ⟨rfl, rfl, rfl, by decide +kernel, rfl, by decide +kernel, by decide +kernel⟩
/-- what the classes say of each other -/
structure Cl (K : PySem.W.Frag) (mg : Str → Option Value) (C U C1 C2 C3 : Addr) : Prop where
  gU : mg "UndoError" = some (.ref U)
  g1 : mg "BadContent" = some (.ref C1)
  g2 : mg "BadEdits" = some (.ref C2)
  g3 : mg "NoDocument" = some (.ref C3)
  ex : PySem.W.exmOne K (.ref C) (.ref U) = some true
  ki : PySem.W.kitOne K (.ref C) (.ref C) = some true
  ka : PySem.W.kitAny K (.ref C) ([C1, C2, C3].map Value.ref) = some false
section
variable {P : Program} {w : World} {K : PySem.W.Frag} {mg : Str → Option Value} {base : Heap}
def spOut (K : PySem.W.Frag) : Sp := fun vs H Q _ => ∃ (c r i : Str) (e : Addr) (d : V) (p : Nat), vs = [.str c, .ref e] ∧ SqT K H e [d, .int (p : Int), .str r, .str i] ∧ c.length ≤ 1000000 ∧ r.length ≤ 1000000 ∧ i.length ≤ 1000000 ∧
  (fitB c p r = true → Q (.str (applyS c p r i)) H) ∧ (fitB c p r = false → ∀ H' l, Same H H' → H' l = some (.lst [d]) → H l = none → Q (.ref l) H')
theorem ok_out {f fA C fI U C1 C2 C3 : Addr} {fd fdA : FuncData} (F : Fun K "_law_outcome" "_law_outcome" sOut f fd) (DA : Df K mg "apply" sApply pFits fA fdA) (GA : FnOk P w K mg base (L2.CX P w) 3 fA fdA pFits (spApplyX K C)) (R : Er K mg C fI) (L : Cl K mg C U C1 C2 C3) (T : Bl mg) : FnOk P w K mg base CX0 4 f fd pOut (spOut K) := by
  refine F.ok scU (fun vs H Q E h => ?_) (fun cdv A outer s H vs Q E hr h => ?_)
  · obtain ⟨c, r, i, e, d, p, rfl, _⟩ := h
    rfl
  · obtain ⟨c, r, i, e, d, p, rfl, hS, hc, hl, hi, q1, q2⟩ := h
    refine ⟨_, (pss_cons (ps_set (i := 2) scU.nd rfl (.inl rfl) pe_non)
      (pss_cons (ps_try_keep (i := 3) (tb := fun W => tRet (tCallS (spApplyX K C) (WE W) (tCons (tVar 0) (tCons (tVar 1) tNil)))) (ts := fun _ _ _ => tAsg (tVar 3) (gName 2)) (Wo := fun _ _ _ _ => False) rfl rfl rfl scU.nd rfl rfl ⟨rfl, by decide, .inl L.gU⟩ takes0
          (fun W pn xe tk _ => pss_one (ps_ret (by exact (pe_callS GA (hr.mono (by decide)) rfl DA.g DA.F.kp DA.b (fun σ => passAt tk σ) (by exact (pa_cons (pv 0) (pa_cons (pv 1) pa_nil)))))))
          (fun a oe cls d pn hz hf => pss_one (ps_set (i := 2) scU.nd rfl (.inl rfl) (pv 3))))
      (pss_cons (ps_if (PW.pt (pw_or (pt_not (pt_val (pe_callB call_isV (by rfl) T.isinstance (by decide +kernel) (pa_cons (pv 2) (pa_cons (pe_glob (v := .ref C) (by rfl) R.g rfl) pa_nil))))) (pw_or1 (pt_val (pe_callB call_isVs (by rfl) T.isinstance (by decide +kernel) (pa_cons (pv 2) (pa_cons (pe_tup (pa_cons (pe_glob (v := .ref C1) (by rfl) L.g1 rfl) (pa_cons (pe_glob (v := .ref C2) (by rfl) L.g2 rfl) (pa_cons (pe_glob (v := .ref C3) (by rfl) L.g3 rfl) pa_nil)))) pa_nil)))))))
        (pss_one (ps_ret (pe_lst (pa_cons pe_str pa_nil))))
        pss_nil)
      (pss_one (ps_ret (pe_lst (pa_cons (pe_xv R.xf R.no (pv 2)) pa_nil))))))), ?_⟩
    refine ⟨.str c, rfl, .ref e, rfl, c, r, i, e, d, p, rfl, hS, hc, hl, hi, q1, fun hf dx nd => ?_⟩
    refine ⟨true, L.ex, fun _ a na => ?_, fun z => Bool.noConfusion z⟩
    have nda : dx ≠ a := fun z => by
      rw [← z, upd_same] at na
      cases na
    have nHa : H a = none := by
      rw [upd_ne nda.symm] at na
      exact na
    have ea : (upd (upd H dx (.xd [("document", d)])) a (ExV (.ref C) (some dx) a)) a = some (ExV (.ref C) (some dx) a) := upd_same
    have ed : (upd (upd H dx (.xd [("document", d)])) a (ExV (.ref C) (some dx) a)) dx = some (.xd [("document", d)]) := by
      rw [upd_ne nda]
      exact upd_same
    have sH : Same H (upd (upd H dx (.xd [("document", d)])) a (ExV (.ref C) (some dx) a)) := (same_upd nd).trans (same_upd na)
    refine ⟨.ref a, rfl, ?_⟩
    refine ⟨.ref a, rfl, a, C, C, dx, _, true, rfl, ea, ed, R.ec, L.ki, ?_⟩
    refine ⟨true, rfl, iffF rfl ?_⟩
    refine ⟨.ref a, rfl, by show 3 ≤ sizeLine; decide, fun t nt => ?_⟩
    have eat := same_upd (o := .tup [.ref C1, .ref C2, .ref C3]) nt _ _ ea
    have edt := same_upd (o := .tup [.ref C1, .ref C2, .ref C3]) nt _ _ ed
    have st := sH.trans (same_upd (o := .tup [.ref C1, .ref C2, .ref C3]) nt)
    refine ⟨a, C, t, dx, _, [C1, C2, C3], false, rfl, eat, edt, R.ec, SqT.of upd_same, L.ka, ?_⟩
    refine ⟨false, rfl, iffF rfl ?_⟩
    refine ⟨.ref a, rfl, a, dx, _, d, rfl, eat, edt, rfl, by show 1 ≤ sizeLine; decide, fun l nl => ?_⟩
    refine q2 hf _ l (st.trans (same_upd nl)) upd_same ?_
    cases z : H l with
    | none => rfl
    | some o =>
      rw [st _ _ z] at nl
      cases nl
end
end Cu

namespace Cu
open PySem PySem.Spec PyProof.Rows L2
/-! ### _law_stands -/
abbrev sStd : Stmt := topS 13
abbrev pStd : List Str := ["_law_content", "_law_position", "_law_removed_here"]
abbrev nStd : List Str := ["_law_content", "_law_position", "_law_removed_here", "_law_at", "_law_character"]
theorem scS : FnScope nStd pStd (defScope sStd) := ⟨rfl, rfl, rfl, by decide +kernel, rfl, by decide +kernel, by decide +kernel⟩
/-- sign by sign -/
def signB (c : Str) (p : Nat) (r : Str) (j : Nat) : Bool := decide (c.cps[p + j]? = r.cps[j]?)
theorem fit_far {c : Str} {p : Nat} {r : Str} (h : c.length < p ∨ c.length < p + r.length) : fitB c p r = false := by
  cases hf : fitB c p r with
  | false => rfl
  | true =>
    obtain ⟨h1, h2, h3⟩ := fit_le hf
    omega
theorem fit_signs {c : Str} {p : Nat} {r : Str} (h : p + r.length ≤ c.length) : ((List.range r.cps.size).map (signB c p r)).all id = fitB c p r := by
  have lr : (tl r).length = r.cps.size := Array.length_toList
  have key : (∀ j < r.cps.size, c.cps[p + j]? = r.cps[j]?) ↔ ((tl c).drop p).take r.length = tl r := by
    constructor
    · intro hh
      apply List.ext_getElem?
      intro j
      by_cases hj : j < r.cps.size
      · have e := hh j hj
        rw [List.getElem?_take, if_pos (show j < r.length from hj), List.getElem?_drop]
        show c.cps.toList[p + j]? = r.cps.toList[j]?
        rw [Array.getElem?_toList, Array.getElem?_toList]
        exact e
      · rw [List.getElem?_eq_none (by rw [List.length_take]; show _ ≤ _; have : r.length = r.cps.size := rfl; omega), List.getElem?_eq_none (by omega)]
    · intro hh j hj
      have e : (((tl c).drop p).take r.length)[j]? = (tl r)[j]? := by rw [hh]
      rw [List.getElem?_take, if_pos (show j < r.length from hj), List.getElem?_drop] at e
      have e2 : c.cps.toList[p + j]? = r.cps.toList[j]? := e
      rw [Array.getElem?_toList, Array.getElem?_toList] at e2
      exact e2
  unfold fitB
  rw [decide_eq_true (show p ≤ c.length by omega), Bool.true_and]
  by_cases hk : ((tl c).drop p).take r.length = tl r
  · rw [decide_eq_true hk, List.all_eq_true]
    intro b mb
    obtain ⟨j, mj, rfl⟩ := List.mem_map.mp mb
    exact decide_eq_true (key.mpr hk j (List.mem_range.mp mj))
  · rw [decide_eq_false hk]
    cases ha : ((List.range r.cps.size).map (signB c p r)).all id with
    | false => rfl
    | true =>
      exact absurd (key.mp fun j hj => of_decide_eq_true (List.all_eq_true.mp ha _ (List.mem_map_of_mem (List.mem_range.mpr hj)))) hk
section
variable {P : Program} {w : World} {K : PySem.W.Frag} {mg : Str → Option Value} {base : Heap}
def spStd : Sp := fun vs H Q _ => ∃ (c r : Str) (p : Nat), vs = [.str c, .int (p : Int), .str r] ∧ c.length ≤ 1000000 ∧ r.length ≤ 1000000 ∧ ∀ H', Same H H' → Q (.bl (fitB c p r)) H'
theorem ok_stands {f : Addr} {fd : FuncData} (F : Fun K "_law_stands" "_law_stands" sStd f fd) (T : Bl mg) : FnOk P w K mg base CX0 1 f fd pStd spStd := by
  refine F.ok scS (fun vs H Q E h => ?_) (fun cdv A outer s H vs Q E hr h => ?_)
  · obtain ⟨c, r, p, rfl, _⟩ := h
    rfl
  · obtain ⟨c, r, p, rfl, hc, hl, q⟩ := h
    refine ⟨_, (pss_cons (ps_if (PW.pt (pw_or (pt_cmpR op_gt (pv 1) (pe_callB call_len_str (by rfl) T.len PySem.boot_len (pa_cons (pv 0) pa_nil)) (nomark _)) (pw_or1 (pt_cmpR op_gt (pe_op op_add (pv 1) (pe_callB call_len_str (by rfl) T.len PySem.boot_len (pa_cons (pv 2) pa_nil))) (pe_callB call_len_str (by rfl) T.len PySem.boot_len (pa_cons (pv 0) pa_nil)) (nomark _)))))
  (pss_one (ps_ret pe_bl))
  pss_nil)
  (pss_one (ps_ret (pe_callB (cr_all rfl) (by rfl) T.all (by decide +kernel) (pa_cons (pe_lc (own := [("_law_at", 3), ("_law_character", 4)]) (g := gTup K 2 (gCons (gName 3) (gCons (gName 4) gNil))) (tt := tYes) rfl scS.nd (pi_enumS (by rfl) T.enumerate (pa_cons (pv 2) pa_nil)) (blkOk_by (own := [("_law_at", 3), ("_law_character", 4)]) (N := nStd) (sc := defScope sStd) (by decide +kernel)) (fun _ _ _ _ _ => (pg_tup rfl (pgs_cons (pg_name (i := 3) scS.nd rfl (.inl rfl)) (pgs_cons (pg_name (i := 4) scS.nd rfl (.inl rfl)) pgs_nil)))) (fun _ _ _ _ _ => pts_nil) (fun _ _ _ _ _ => (pe_cmpR op_eq (pe_ix ix_str (pv 0) (pe_op op_add (pv 1) (pv 3)) (fun _ _ => rfl)) (pv 4) (nomark _)))) pa_nil))))), ?_⟩
    have z1 : (1000000 : Nat) ≤ sizeLine := by decide
    have zc : c.length ≤ sizeLine := by omega
    have zr : r.length ≤ sizeLine := by omega
    refine ⟨.int p, rfl, .str c, rfl, c, rfl, zc, p, c.length, rfl, rfl, _, rfl, ite2 (fun hb => ?_) (fun hb => ?_)⟩
    · have hb' : (c.length : Int) < p := of_decide_eq_true hb
      have e := fit_far (c := c) (p := p) (r := r) (.inl (by omega))
      rw [e] at q
      exact q H (Same.refl _)
    have hb' : ¬ (c.length : Int) < p := fun z => hb (decide_eq_true z)
    refine ⟨.int p, rfl, .str r, rfl, r, rfl, zr, p, r.length, rfl, rfl, .str c, rfl, c, rfl, zc, _, c.length, rfl, rfl, _, rfl, ite2 (fun hb2 => ?_) (fun hb2 => ?_)⟩
    · have hb3 : (c.length : Int) < p + r.length := of_decide_eq_true hb2
      have e := fit_far (c := c) (p := p) (r := r) (.inr (by omega))
      rw [e] at q
      exact q H (Same.refl _)
    have hb3 : ¬ (c.length : Int) < p + r.length := fun z => hb2 (decide_eq_true z)
    have hle : p + r.length ≤ c.length := by omega
    refine ⟨.str r, rfl, r, rfl, fun D nD => ?_⟩
    refine lc_it (walk_enumS (z := r)) (fun i H2 => H2 D = some (.lst (((List.range i).map (signB c p r)).map V.bl)) ∧ Same H H2) ?_ ?_ ?_ ?_
    · exact ⟨upd_same, same_upd nD⟩
    · exact fun _ _ _ _ => trivial
    · rintro i x H2 H3 hi ⟨eD, s2⟩ ⟨t, x1, y1, rfl, nt, rfl, ex, ey⟩
      cases ex
      obtain ⟨ch, ech, rfl⟩ := Option.map_eq_some_iff.mp ey
      refine ⟨t, _, rfl, SqT.of upd_same, rfl, _, _, rfl, _, _, rfl, rfl, ?_⟩
      refine ⟨rfl, lc_yes ?_⟩
      have hi' : i < r.length := hi
      obtain ⟨cc, e1, e2⟩ := at_of (xs := c.cps.toList) (i := (p : Int) + (i : Nat)) (by omega) (by rw [Array.length_toList]; show _ < (c.length : Int); omega)
      refine ⟨.str c, rfl, .int p, rfl, .int (i : Nat), rfl, p, i, rfl, rfl, c, _, cc, rfl, rfl, zc, e2, .str ⟨#[ch]⟩, rfl, rfl, ?_⟩
      refine ⟨_, same_upd nt _ _ eD, ?_, ?_, ?_⟩
      · rw [List.length_map, List.length_map, List.length_range]
        omega
      · rw [upd_same, List.range_succ, List.map_append, List.map_append]
        have e : decide (V.str ⟨#[cc]⟩ = V.str ⟨#[ch]⟩) = signB c p r i := by
          unfold signB
          have e1' : c.cps[p + i]? = some cc := by
            rw [← Array.getElem?_toList, ← e1]
            congr 1
          rw [e1', ech]
          by_cases z : cc = ch
          · rw [z, decide_eq_true rfl, decide_eq_true rfl]
          · rw [decide_eq_false (fun y => z (Option.some.inj y)), decide_eq_false]
            intro y
            apply z
            injection y with y
            injection y with y
            injection y with y
            injection y
        rw [e]
        rfl
      · intro b o eb
        have nb : b ≠ D := fun z => by
          rw [z, nD] at eb
          cases eb
        rw [upd_ne nb]
        exact same_upd nt _ _ (s2 _ _ eb)
    · rintro H2 ⟨eD, s2⟩
      refine ⟨D, _, rfl, SqL.of eD, ?_⟩
      rw [fit_signs hle]
      exact q _ s2
end
end Cu

namespace Cu
open PySem PySem.Spec PyProof.Rows L2
/-! ### _law_right -/
abbrev sRgt : Stmt := topS 15
abbrev pRgt : List Str := ["_law_content", "_law_edit"]
abbrev nRgt : List Str := ["_law_content", "_law_edit", "_law_document", "_law_position", "_law_removed_here", "_law_inserted", "_law_does_fit", "_law_due", "_law_stays", "_law_at", "_law_character"]
theorem scR : FnScope nRgt pRgt (defScope sRgt) := ⟨rfl, rfl, rfl, by decide +kernel, rfl, by decide +kernel, by decide +kernel⟩
/-- the sign as a text -/
def one (c : Nat) : Str := ⟨#[c]⟩
/-- what stays of the first i signs -/
def stays (c : List Nat) (p n i : Nat) : List Nat := c.take (min i p) ++ (c.take i).drop (p + n)
theorem stays_in {c : List Nat} {p n i x : Nat} (hx : c[i]? = some x) (h : i < p ∨ p + n ≤ i) : stays c p n (i + 1) = stays c p n i ++ [x] := by
  have hl : i < c.length := (List.getElem?_eq_some_iff.mp hx).1
  have ht : c.take (i + 1) = c.take i ++ [x] := by rw [List.take_add_one, hx]; rfl
  unfold stays
  rcases h with h | h
  · rw [Nat.min_eq_left (show i + 1 ≤ p by omega), Nat.min_eq_left (show i ≤ p by omega), ht, List.drop_eq_nil_of_le (by rw [List.length_append, List.length_take, List.length_singleton]; omega), List.drop_eq_nil_of_le (by rw [List.length_take]; omega), List.append_nil, List.append_nil]
  · rw [Nat.min_eq_right (show p ≤ i + 1 by omega), Nat.min_eq_right (show p ≤ i by omega), ht, List.drop_append_of_le_length (by rw [List.length_take]; omega), List.append_assoc]
theorem stays_out {c : List Nat} {p n i : Nat} (h1 : p ≤ i) (h2 : i < p + n) : stays c p n (i + 1) = stays c p n i := by
  unfold stays
  rw [Nat.min_eq_right (show p ≤ i + 1 by omega), Nat.min_eq_right h1, List.drop_eq_nil_of_le (by rw [List.length_take]; omega), List.drop_eq_nil_of_le (by rw [List.length_take]; omega)]
theorem stays_len (c : List Nat) (p n i : Nat) : (stays c p n i).length ≤ c.length + c.length := by
  unfold stays
  rw [List.length_append, List.length_take, List.length_drop, List.length_take]
  omega
theorem flat_one : ∀ l : List Nat, ((l.map one).map tl).flatten = l
  | [] => rfl
  | x :: r => by
    rw [List.map_cons, List.map_cons, List.flatten_cons, flat_one r]
    rfl
theorem sum_one : ∀ l : List Nat, ((l.map one).map (·.length)).sum = l.length
  | [] => rfl
  | x :: r => by
    rw [List.map_cons, List.map_cons, List.sum_cons, sum_one r, List.length_cons]
    show 1 + _ = _
    omega
def strsV (l : List Nat) : List V := (l.map one).map V.str
theorem cutV_left (l : List Nat) (p : Nat) : cutV (strsV l) none (some (p : Int)) = strsV (l.take p) := by
  unfold cutV strsV
  rw [HT.sIx_none, HT.sIx_nat, List.drop_zero, Nat.sub_zero, List.map_take, List.map_take]
  by_cases h : p ≤ (List.map V.str (l.map one)).length
  · rw [Nat.min_eq_left h]
  · rw [Nat.min_eq_right (by omega), List.take_of_length_le (Nat.le_refl _), List.take_of_length_le (by omega)]
theorem cutV_right (l : List Nat) (p : Nat) : cutV (strsV l) (some (p : Int)) none = strsV (l.drop p) := by
  unfold cutV strsV
  rw [HT.sIx_none, HT.sIx_nat, List.map_drop, List.map_drop]
  by_cases h : p ≤ (List.map V.str (l.map one)).length
  · rw [Nat.min_eq_left h, List.take_of_length_le (by rw [List.length_drop]; omega)]
  · rw [Nat.min_eq_right (by omega), List.drop_eq_nil_of_le (by omega), List.drop_eq_nil_of_le (by omega), List.take_nil]
section
variable {P : Program} {w : World} {K : PySem.W.Frag} {mg : Str → Option Value} {base : Heap}
def spRgt (K : PySem.W.Frag) : Sp := fun vs H Q _ => ∃ (c d r i : Str) (e : Addr) (p : Nat), vs = [.str c, .ref e] ∧ H e = some (.tup [.str d, .int (p : Int), .str r, .str i]) ∧ c.length ≤ 1000 ∧ r.length ≤ 1000 ∧ i.length ≤ 1000 ∧ d.length ≤ 1000 ∧ Asc c ∧ Asc i ∧ Asc d ∧ ∀ H', Same H H' → Q (.bl true) H'
theorem ok_right {f fF fS fO : Addr} {fd fdF fdS fdO : FuncData} (F : Fun K "_law_right" "_law_right" sRgt f fd) (DF : Df K mg "fits" sFits pFits fF fdF) (DS : Df K mg "_law_stands" sStd pStd fS fdS) (DO : Df K mg "_law_outcome" sOut pOut fO fdO)
    (GO : FnOk P w K mg base CX0 4 fO fdO pOut (spOut K)) (T : Bl mg) : FnG P w K mg base CX0 5 f fd pRgt (spRgt K) := by
  have GF : FnOk P w K mg base CX0 1 fF fdF _ (spFits K) := ok_fits DF.F T
  have GS : FnOk P w K mg base CX0 1 fS fdS _ spStd := ok_stands DS.F T
  refine okG F scR (fun vs H Q E h => ?_) (fun cdv A outer s H vs Q E gd hr h => ?_)
  · obtain ⟨c, d, r, i, e, p, rfl, _⟩ := h
    rfl
  · obtain ⟨c, d, r, i, e, p, rfl, hS, hc, hl, hi, hd, ac, ai, ad, q⟩ := h
    refine ⟨_, (pss_cons (ps_asg (pv 1) (pg_tup rfl (pgs_cons (pg_name (i := 2) scR.nd rfl (.inl rfl)) (pgs_cons (pg_name (i := 3) scR.nd rfl (.inr rfl)) (pgs_cons (pg_name (i := 4) scR.nd rfl (.inr rfl)) (pgs_cons (pg_name (i := 5) scR.nd rfl (.inl rfl)) pgs_nil))))))
  (pss_cons (ps_set (i := 6) scR.nd rfl (.inl rfl) (pe_call GS (hr.mono (by decide)) (by rfl) DS.g DS.F.kp DS.b .nil pass0 (pa_cons (pv 0) (pa_cons (pv 3) (pa_cons (pv 4) pa_nil)))))
  (pss_cons (ps_set (i := 7) scR.nd rfl (.inl rfl) (pe_lst (pa_cons (pv 2) pa_nil)))
  (pss_cons (ps_if (pt_val (pv 6))
  (pss_cons (ps_setLc (i := 8) (own := [("_law_at", 9), ("_law_character", 10)]) (g := gTup K 2 (gCons (gName 9) (gCons (gName 10) gNil))) rfl scR.nd rfl rfl rfl (pi_enumS (by rfl) T.enumerate (pa_cons (pv 0) pa_nil)) (blkOk_by (own := [("_law_at", 9), ("_law_character", 10)]) (N := nRgt) (sc := defScope sRgt) (by decide +kernel)) (fun _ _ _ _ _ => (pg_tup rfl (pgs_cons (pg_name (i := 9) scR.nd rfl (.inl rfl)) (pgs_cons (pg_name (i := 10) scR.nd rfl (.inl rfl)) pgs_nil)))) (fun _ _ _ _ _ => pts_one (PW.pt (pw_or (pt_cmpR op_lt (pv 9) (pv 3) (nomark _)) (pw_or1 (pt_cmpR op_ge (pv 9) (pe_op op_add (pv 3) (pe_callB call_len_str (by rfl) T.len PySem.boot_len (pa_cons (pv 4) pa_nil))) (nomark _)))))) (fun _ _ _ _ _ => (pv 10)))
  (pss_one (ps_set (i := 7) scR.nd rfl (.inl rfl) (pe_op op_add_str (pe_op op_add_str (pe_join pe_str (pe_slice sl_list (pv 8) po_none (po_some (pv 3)))) (pv 5)) (pe_join pe_str (pe_slice sl_list (pv 8) (po_some (pv 3)) po_none))))))
  pss_nil)
  (pss_one (ps_ret (pe_and (pe_cmpR op_eq (pe_callB (call_reprD gd hr.units) (by rfl) T.repr (by decide +kernel) (pa_cons (pe_call GF (hr.mono (by decide)) (by rfl) DF.g DF.F.kp DF.b .nil pass0 (pa_cons (pv 0) (pa_cons (pv 1) pa_nil))) pa_nil)) (pe_callB (call_reprD gd hr.units) (by rfl) T.repr (by decide +kernel) (pa_cons (pv 6) pa_nil)) (nomark _))
     (pe_one (pe_cmpR op_eq (pe_callB (call_reprD gd hr.units) (by rfl) T.repr (by decide +kernel) (pa_cons (pe_call GO (hr.mono (by decide)) (by rfl) DO.g DO.F.kp DO.b .nil pass0 (pa_cons (pv 0) (pa_cons (pv 1) pa_nil))) pa_nil)) (pe_callB (call_reprD gd hr.units) (by rfl) T.repr (by decide +kernel) (pa_cons (pv 7) pa_nil)) (nomark _)))))))))), ?_⟩
    have z1 : (1000 : Nat) ≤ sizeLine := by decide
    have zc : c.length ≤ sizeLine := by omega
    have zr : r.length ≤ sizeLine := by omega
    refine ⟨.ref e, rfl, e, _, rfl, SqT.of hS, rfl, _, _, rfl, _, _, rfl, _, _, rfl, _, _, rfl, rfl, ?_⟩
    refine ⟨.str c, rfl, .int p, rfl, .str r, rfl, c, r, p, rfl, by omega, by omega, fun H1 s1 => ?_⟩
    refine ⟨.str d, rfl, by show 1 ≤ sizeLine; decide, fun l nl => ?_⟩
    have s2 : Same H _ := s1.trans (same_upd (o := .lst [V.str d]) nl)
    have el : (upd H1 l (.lst [V.str d])) l = some (.lst [.str d]) := upd_same
    generalize upd H1 l (.lst [V.str d]) = H2 at s2 el ⊢
    have gb : ∀ b : Bool, Shw (.bool b) := fun b => (good_bool (n := 5) (k := 0) b (by decide)).shw
    refine ⟨_, rfl, _, rfl, ?_⟩
    cases hf : fitB c p r with
    | false =>
      refine iffF rfl ?_
      refine ⟨.str c, rfl, .ref e, rfl, c, r, e, .str d, .str i, p, rfl, SqT.of (s2 _ _ hS), zc, zr, _, .bool _, rfl, .bl _, gb _, ?_⟩
      refine ⟨_, rfl, _, .bool _, rfl, .bl _, gb _, rfl, _, rfl, iffT (decide_eq_true (by rw [hf])) ?_⟩
      refine ⟨.str c, rfl, .ref e, rfl, c, r, i, e, .str d, p, rfl, SqT.of (s2 _ _ hS), by omega, by omega, by omega, (fun z => by rw [hf] at z; cases z), fun _ H3 l2 s3 el2 nl2 => ?_⟩
      have gs : Shw (.list [.str d]) := (good_list (n := 10002) (k := 0) (m := 20000) (fun x mx => by
        rw [List.mem_singleton.mp mx]
        exact good_str ad (by omega)) (by show (10002 + 2) * 1 + 2 ≤ 20000; decide)).shw
      refine ⟨_, .list [.str d], rfl, .lst (SqL.of el2) (.cons (.str d) .nil), gs, .ref l, rfl, _, .list [.str d], rfl, .lst (SqL.of (s3 _ _ el)) (.cons (.str d) .nil), gs, rfl, ?_⟩
      rw [decide_eq_true rfl]
      exact q _ (s2.trans s3)
    | true =>
      obtain ⟨f1, f2, f3⟩ := fit_le hf
      refine iffT rfl ?_
      refine ⟨.str c, rfl, c, rfl, fun D nD => ?_⟩
      have fD : H D = none := s2.free nD
      refine lc_it (walk_enumS (z := c)) (fun j H3 => H3 D = some (.lst (strsV (stays (tl c) p r.length j))) ∧ Same H2 H3) ?_ ?_ ?_ ?_
      · refine ⟨?_, same_upd nD⟩
        rw [upd_same]
        unfold stays strsV
        rw [Nat.zero_min, List.take_zero, List.drop_nil]
        rfl
      · exact fun _ _ _ _ => trivial
      · rintro j x H3 H4 hj ⟨eD, s3⟩ ⟨t, x1, y1, rfl, nt, rfl, ex, ey⟩
        cases ex
        obtain ⟨chr, ech, rfl⟩ := Option.map_eq_some_iff.mp ey
        have ech' : (tl c)[j]? = some chr := by
          show c.cps.toList[j]? = _
          rw [Array.getElem?_toList]
          exact ech
        refine ⟨t, _, rfl, SqT.of upd_same, rfl, _, _, rfl, _, _, rfl, rfl, rfl, ?_⟩
        have sD : ∀ ys : List V, Same H2 (upd (upd H3 t (.tup [.int (j : Nat), .str ⟨#[chr]⟩])) D (.lst ys)) := fun ys b o eb => by
          have nb : b ≠ D := fun z => by
            rw [z, nD] at eb
            cases eb
          rw [upd_ne nb]
          exact same_upd nt _ _ (s3 _ _ eb)
        have stay : (j < p ∨ p + r.length ≤ j) → ∃ acc, (upd H3 t (.tup [.int (j : Nat), .str ⟨#[chr]⟩])) D = some (.lst acc) ∧ acc.length < sizeLine ∧ (upd (upd H3 t (.tup [.int (j : Nat), .str ⟨#[chr]⟩])) D (.lst (acc ++ [.str ⟨#[chr]⟩]))) D = some (.lst (strsV (stays (tl c) p r.length (j + 1)))) ∧ Same H2 (upd (upd H3 t (.tup [.int (j : Nat), .str ⟨#[chr]⟩])) D (.lst (acc ++ [.str ⟨#[chr]⟩]))) := fun hh => by
          refine ⟨_, same_upd nt _ _ eD, ?_, ?_, sD _⟩
          · unfold strsV
            rw [List.length_map, List.length_map]
            have := stays_len (tl c) p r.length j
            rw [tl_len] at this
            have z2 : (10000 : Nat) ≤ sizeLine := by decide
            omega
          · rw [upd_same, stays_in ech' hh]
            unfold strsV
            rw [List.map_append, List.map_append]
            rfl
        refine ⟨.int (j : Nat), rfl, .int p, rfl, (j : Nat), p, rfl, rfl, _, rfl, ite2 (fun hb => ?_) (fun hb => ?_)⟩
        · have hb' : (j : Int) < p := of_decide_eq_true hb
          exact ⟨_, rfl, stay (.inl (by omega))⟩
        · have hb' : ¬ (j : Int) < p := fun z => hb (decide_eq_true z)
          refine ⟨.int (j : Nat), rfl, .int p, rfl, .str r, rfl, r, rfl, zr, p, r.length, rfl, rfl, (j : Nat), _, rfl, rfl, _, rfl, ite2 (fun hb2 => ?_) (fun hb2 => ?_)⟩
          · have hb3 : (p : Int) + r.length ≤ j := of_decide_eq_true hb2
            exact ⟨_, rfl, stay (.inr (by omega))⟩
          · have hb3 : ¬ (p : Int) + r.length ≤ j := fun z => hb2 (decide_eq_true z)
            refine ⟨?_, s3.trans (same_upd nt)⟩
            rw [stays_out (by omega) (by omega)]
            exact same_upd nt _ _ eD
      · rintro H3 ⟨eD, s3⟩
        have lc : (tl c).length = c.cps.size := Array.length_toList
        have lc2 : (tl c).length = c.length := Array.length_toList
        have eS : stays (tl c) p r.length c.cps.size = (tl c).take p ++ (tl c).drop (p + r.length) := by
          unfold stays
          rw [Nat.min_eq_right (by omega), List.take_of_length_le (show (tl c).length ≤ c.cps.size by omega)]
        rw [eS] at eD
        have lt : ((tl c).take p).length = p := by rw [List.length_take]; omega
        refine ⟨⟨_, rfl⟩, .ref D, rfl, .int p, rfl, p, rfl, D, _, rfl, SqL.of eD, fun p1 np1 => ?_⟩
        have e1 : (upd H3 p1 (.lst (cutV (strsV ((tl c).take p ++ (tl c).drop (p + r.length))) none (some (p : Int))))) p1 = some (.lst ((((tl c).take p).map one).map V.str)) := by
          rw [upd_same, cutV_left, List.take_left' lt]
          rfl
        have eD1 := same_upd (o := .lst (cutV (strsV ((tl c).take p ++ (tl c).drop (p + r.length))) none (some (p : Int)))) np1 _ _ eD
        have s4 := s3.trans (same_upd (o := .lst (cutV (strsV ((tl c).take p ++ (tl c).drop (p + r.length))) none (some (p : Int)))) np1)
        generalize upd H3 p1 (.lst (cutV (strsV ((tl c).take p ++ (tl c).drop (p + r.length))) none (some (p : Int)))) = H4 at e1 eD1 s4 ⊢
        have j1 : tl (Txt.join (Str.ofString "") (((tl c).take p).map one)) = (tl c).take p := by rw [tl_join0, flat_one]
        have j2 : tl (Txt.join (Str.ofString "") (((tl c).drop (p + r.length)).map one)) = (tl c).drop (p + r.length) := by rw [tl_join0, flat_one]
        have k1 : (Txt.join (Str.ofString "") (((tl c).take p).map one)).length ≤ 1000 := by rw [← tl_len, j1, List.length_take]; omega
        have k2 : (Txt.join (Str.ofString "") (((tl c).drop (p + r.length)).map one)).length ≤ 1000 := by rw [← tl_len, j2, List.length_drop]; omega
        have z3 : (3000 : Nat) ≤ sizeLine := by decide
        refine ⟨_, p1, ((tl c).take p).map one, rfl, rfl, .inl (SqL.of e1), ?_, ?_⟩
        · rw [sum_one, List.length_map, List.length_take]
          show _ + _ * 0 ≤ _
          omega
        refine ⟨.str i, rfl, _, i, rfl, rfl, by omega, ?_⟩
        refine ⟨⟨_, rfl⟩, .ref D, rfl, .int p, rfl, p, rfl, D, _, rfl, SqL.of eD1, fun p2 np2 => ?_⟩
        have e2 : (upd H4 p2 (.lst (cutV (strsV ((tl c).take p ++ (tl c).drop (p + r.length))) (some (p : Int)) none))) p2 = some (.lst ((((tl c).drop (p + r.length)).map one).map V.str)) := by
          rw [upd_same, cutV_right, List.drop_left' lt]
          rfl
        have s5 := s4.trans (same_upd (o := .lst (cutV (strsV ((tl c).take p ++ (tl c).drop (p + r.length))) (some (p : Int)) none)) np2)
        generalize upd H4 p2 (.lst (cutV (strsV ((tl c).take p ++ (tl c).drop (p + r.length))) (some (p : Int)) none)) = H5 at e2 s5 ⊢
        refine ⟨_, p2, ((tl c).drop (p + r.length)).map one, rfl, rfl, .inl (SqL.of e2), ?_, ?_⟩
        · rw [sum_one, List.length_map, List.length_drop]
          show _ + _ * 0 ≤ _
          omega
        refine ⟨_, _, rfl, rfl, by rw [strLen_append]; omega, ?_⟩
        have eA : Txt.join (Str.ofString "") (((tl c).take p).map one) ++ i ++ Txt.join (Str.ofString "") (((tl c).drop (p + r.length)).map one) = applyS c p r i := by
          apply ext_t
          rw [applyS_tl, tl_app, tl_app, j1, j2]
        rw [eA]
        have s6 := s2.trans s5
        refine ⟨.str c, rfl, .ref e, rfl, c, r, e, .str d, .str i, p, rfl, SqT.of (s6 _ _ hS), zc, zr, _, .bool _, rfl, .bl _, gb _, ?_⟩
        refine ⟨_, rfl, _, .bool _, rfl, .bl _, gb _, rfl, _, rfl, iffT (decide_eq_true (by rw [hf])) ?_⟩
        refine ⟨.str c, rfl, .ref e, rfl, c, r, i, e, .str d, p, rfl, SqT.of (s6 _ _ hS), by omega, by omega, by omega, fun _ => ?_, (fun z => by rw [hf] at z; cases z)⟩
        have la := applyS_len i hf
        have gs : Shw (.str (applyS c p r i)) := (good_str (n := 20002) (k := 0) (asc_apply ac ai) (by omega)).shw
        refine ⟨_, .str _, rfl, .str _, gs, _, rfl, _, .str _, rfl, .str _, gs, rfl, ?_⟩
        rw [decide_eq_true rfl]
        exact q _ s6
end
end Cu

namespace Cu
open PySem PySem.Spec PyProof.Rows L2
/-! ### z[::-1] of a text -/
section
variable {X : Cx}
def tRevS (te : TE) : TE := fun σ H Q => te σ H fun x H1 => ∃ z : Str, x = .str z ∧ z.length ≤ sizeLine ∧ ∀ r : Str, r.length ≤ z.length → (∀ c ∈ tl r, c ∈ tl z) → Q (.str r) H1
theorem pe_revS {e : Expr} {te : TE} {k : Nat} {p1 p2 p3 pos : Pos} (he : PE X e te) : PE X (.Subscript e (.Slice none none (some (.UnaryOp .USub (.Constant (.int 1) k p1) p2)) p3) pos) (tRevS te) := by
  constructor
  intro pins s σ H Q I h
  refine Subscript_ (thn (he.run pins s σ H _ I h) ?_)
  rintro v s1 ⟨x, H1, I1, r1, z, rfl, hz, q⟩
  obtain ⟨t, rfl⟩ := r1
  have step : PO X (some (.UnaryOp .USub (.Constant (.int 1) k p1) p2)) (tPart (tUn (rU fun i => .int (-i)) (tC (.int 1)))) := po_some (pe_un un_neg pe_int)
  refine wpAny_Slice (thn (po_none.run pins s1 σ H1 (fun o H2 => o = none ∧ H2 = H1) I1 ⟨rfl, rfl⟩) ?_)
  rintro vl s2 ⟨l, H2, I2, pl, el, e2⟩
  rw [e2] at I2
  rw [el] at pl
  refine thn (po_none.run pins s2 σ _ (fun o H3 => o = none ∧ H3 = H1) I2 ⟨rfl, rfl⟩) ?_
  rintro vu s3 ⟨u, H3, I3, pu, eu, e3⟩
  rw [e3] at I3
  rw [eu] at pu
  refine thn (step.run pins s3 σ _ (fun o H4 => o = some (-1) ∧ H4 = H1) I3 ⟨1, rfl, -1, rfl, rfl, rfl⟩) ?_
  rintro vs s4 ⟨o, H4, I4, ps, eo, e4⟩
  rw [e4] at I4
  rw [eo] at ps
  cases pl
  cases pu
  obtain ⟨st, rfl, est⟩ := IsPart.raw ps
  have I5 : Inv X pins σ H1 { s4 with heap := s4.heap.push { cls := .type "slice", data := .fields #[.none, .none, partValue st] } } := I4.kept (t' := s4.toks) fun b ob q => Heap.get?_push_of_some _ q
  show wpAny (model X.prog X.w) X.A (subscriptTail e (.Slice none none (some (.UnaryOp .USub (.Constant (.int 1) k p1) p2)) p3) (.str z t) (.ref s4.heap.objs.size)) (EP X pins σ Q) X.xe { s4 with heap := s4.heap.push { cls := .type "slice", data := .fields #[.none, .none, partValue st] } }
  refine tail_any (ops := [.str z t, .ref s4.heap.objs.size]) (typeIs_str _ _ _) (F.slot_str_getitem.lookup) ?_ (by with_unfolding_all rfl)
  have e1 : (st.map (·.1)).getD 1 = -1 := by rw [est]; rfl
  refine wpAny_getItem_str_slice (l := none) (u := none) (st := st) (Heap.IsSliceOf.new _ _ _ (partValue st)) (by rw [e1]; decide) ?_
  unfold sliceMade slicePicked
  rw [e1]
  show Made.post (if ((-1 : Int) == 1 && _) = true then _ else _) _ _
  rw [if_neg (show ¬ (((-1 : Int) == 1 && _) = true) from fun q => by rw [Bool.and_eq_true] at q; exact absurd (eq_of_beq q.1) (by decide))]
  have len : (((Builtin.Str.strSliceIndices none none (-1) z.length).filterMap (z.cps[·]?)).toArray).size ≤ z.length := by
    rw [List.size_toArray]
    refine Nat.le_trans (List.length_filterMap_le _ _) ?_
    rw [picked_rev, List.length_map, List.length_range]
    exact Nat.le_refl _
  refine ⟨Nat.le_trans len hz, .str _, H1, I5.tok _, ⟨_, rfl⟩, q _ len fun c mc => ?_⟩
  have mc' : c ∈ (Builtin.Str.strSliceIndices none none (-1) z.length).filterMap (z.cps[·]?) := by
    have := mc
    unfold tl at this
    exact this
  obtain ⟨i, _, ei⟩ := List.mem_filterMap.mp mc'
  have : z.cps.toList[i]? = some c := by rw [Array.getElem?_toList]; exact ei
  exact List.mem_of_getElem? this
/-! ### repetition -/
def rMulS : R2 := fun x y H Q => ∃ (z : Str) (n : Nat), x = .str z ∧ y = .int (n : Int) ∧ 2 ≤ n ∧ n ≤ 1000 ∧ z.length ≤ 1000 ∧ ∀ r : Str, tl r = (List.replicate n (tl z)).flatten → Q (.str r) H
theorem fold_cat : ∀ (l : List (Array Nat)) (acc : Array Nat), (l.foldl (· ++ ·) acc).toList = acc.toList ++ (l.map Array.toList).flatten
  | [], acc => by simp
  | a :: r, acc => by
    rw [List.foldl_cons, fold_cat r (acc ++ a), Array.toList_append, List.map_cons, List.flatten_cons, List.append_assoc]
theorem flat_nil (n : Nat) : (List.replicate n ([] : List Nat)).flatten = [] := by
  induction n with
  | zero => rfl
  | succ n ih => rw [List.replicate_succ, List.flatten_cons, ih]; rfl
theorem op_mulS : OpR X (binaryOp .Mult) rMulS := by
  intro pins s σ H x y v u Q I rx ry h
  obtain ⟨z, n, rfl, rfl, n2, n1, zl, q⟩ := h
  obtain ⟨t, rfl⟩ := rx
  obtain ⟨t', rfl⟩ := ry
  have big : z.length * n ≤ 1000000 := Nat.le_trans (Nat.mul_le_mul zl n1) (by decide)
  refine SB.mul ⟨?_, ?_, ?_⟩ ?_
  · rw [Bool.or_eq_false_iff]
    exact ⟨decide_eq_false (by omega), decide_eq_false (by omega)⟩
  · intro _ _ gt
    have : ((2 : Int) ^ 63 - 1) / (n : Int) ≥ 1000 := Int.le_ediv_of_mul_le (by omega) (by omega)
    omega
  · intro _ _
    have e : Builtin.Str.tooLong (z.length * (n : Int).toNat) = decide (z.length * (n : Int).toNat > 16777216) := rfl
    rw [e, Int.toNat_natCast]
    exact decide_eq_false (by omega)
  · intro t2 k
    refine ⟨.str _, H, I.tok k, ⟨t2, rfl⟩, q _ ?_⟩
    unfold Txt.mul
    rw [if_neg (show ¬ (n : Int) < 1 by omega)]
    by_cases hz : z.length = 0
    · rw [if_pos (by rw [hz]; simp)]
      have e : tl z = [] := List.eq_nil_of_length_eq_zero (by rw [tl_len]; exact hz)
      rw [e, flat_nil]
    · rw [if_neg (by simp; omega)]
      show ((List.replicate (n : Int).toNat z.cps).foldl (· ++ ·) #[]).toList = _
      rw [fold_cat, Int.toNat_natCast, List.map_replicate]
      rfl
end
theorem ones_join : ∀ zs : List Str, (∀ y ∈ zs, y.length = 1 ∧ Asc y) → (zs.map (·.length)).sum = zs.length ∧ ((zs.map tl).flatten).length = zs.length ∧ ∀ c ∈ (zs.map tl).flatten, c < 128
  | [], _ => ⟨rfl, rfl, fun c m => (nomatch m)⟩
  | y :: r, hz => by
    obtain ⟨i1, i2, i3⟩ := ones_join r fun v m => hz v (List.mem_cons_of_mem _ m)
    obtain ⟨j1, j2⟩ := hz y List.mem_cons_self
    refine ⟨?_, ?_, fun c mc => ?_⟩
    · rw [List.map_cons, List.sum_cons, i1, j1, List.length_cons]
      omega
    · rw [List.map_cons, List.flatten_cons, List.length_append, i2, tl_len, j1, List.length_cons]
      omega
    · rw [List.map_cons, List.flatten_cons] at mc
      rcases List.mem_append.mp mc with mc | mc
      · exact j2 c mc
      · exact i3 c mc
theorem rep_len (n : Nat) (l : List Nat) : (List.replicate n l).flatten.length = n * l.length := by
  induction n with
  | zero => rw [Nat.zero_mul]; rfl
  | succ n ih => rw [List.replicate_succ, List.flatten_cons, List.length_append, ih, Nat.succ_mul, Nat.add_comm]
end Cu

namespace Cu
open PySem PySem.Spec PyProof.Rows L2
/-! ### _law_removed -/
abbrev sRem : Stmt := topS 16
abbrev pRem : List Str := ["_law_hand_here", "_law_content", "_law_position"]
theorem scM : FnScope ["_law_hand_here", "_law_content", "_law_position", "_law_piece"] pRem (defScope sRem) := ⟨rfl, rfl, rfl, by decide +kernel, rfl, by decide +kernel, by decide +kernel⟩
section
variable {P : Program} {w : World} {K : PySem.W.Frag} {mg : Str → Option Value} {base : Heap}
def spRem : Sp := fun vs H Q _ => ∃ (a : Addr) (c : Str) (p : Int) (n : Nat), vs = [.ref a, .str c, .int p] ∧ Hand H a n ∧ n + 10 < 2 ^ 40 ∧ c.length ≤ 500 ∧ ∀ H' r, Upto a H H' → Hand H' a (n + 2) → r.length ≤ 600 → Q (.str r) H'
theorem ok_removed {f fT fO : Addr} {fd fdT fdO : FuncData} (F : Fun K "_law_removed" "_law_removed" sRem f fd) (DT : Df K mg "_law_take" sTake ["_law_hand_here", "_law_many"] fT fdT) (DO : Df K mg "_law_of" sOf ["_law_hand_here", "_law_some"] fO fdO) (T : Bl mg) :
    FnOk P w K mg base CX0 3 f fd pRem spRem := by
  have GT : FnOk P w K mg base CX0 1 fT fdT _ spTake := ok_take DT.F T
  have GO : FnOk P w K mg base CX0 2 fO fdO _ spOfL := ok_ofL DO.F DT T
  refine F.ok scM (fun vs H Q E h => ?_) (fun cdv A outer s H vs Q E hr h => ?_)
  · obtain ⟨a, c, p, n, rfl, _⟩ := h
    rfl
  · obtain ⟨a, c, p, n, rfl, hH, hn, hc, q⟩ := h
    refine ⟨_, (pss_cons (ps_set (i := 3) scM.nd rfl (.inl rfl) (pe_slice sl_str (pv 1) (po_some (pv 2)) (po_some (pe_op op_add (pv 2) (pe_call GT (hr.mono (by decide)) (by rfl) DT.g DT.F.kp DT.b .nil pass0 (pa_cons (pv 0) (pa_cons pe_int pa_nil)))))))
  (pss_one (ps_ret (pe_call GO (hr.mono (by decide)) (by rfl) DO.g DO.F.kp DO.b .nil pass0 (pa_cons (pv 0) (pa_cons (pe_lst (pa_cons (pv 3) (pa_cons (pv 3) (pa_cons pe_str (pa_cons (pe_op op_add_str (pv 3) pe_str) (pa_cons (pe_revS (pv 3)) (pa_cons (pe_slice sl_str (pv 3) (po_some pe_int) po_none) (pa_cons pe_str (pa_cons pe_str (pa_cons pe_str pa_nil)))))))))) pa_nil)))))), ?_⟩
    have z1 : (1000 : Nat) ≤ sizeLine := by decide
    refine ⟨.str c, rfl, .int p, rfl, p, rfl, .int p, rfl, .ref a, rfl, a, 5, n, rfl, hH, by omega, by decide, by decide, fun H1 d u1 h1 d0 d1 => ?_⟩
    refine ⟨p, d, rfl, rfl, _, rfl, c, rfl, by omega, ?_⟩
    have lz := cutS_length c (some p) (some (p + d))
    generalize cutS c (some p) (some (p + d)) = z at lz ⊢
    have l2 := cutS_length z (some 1) none
    refine ⟨.ref a, rfl, .str z, rfl, .str z, rfl, .str z, rfl, z, _, rfl, rfl, ?_, .str z, rfl, z, rfl, by omega, fun r hr1 hr2 => ?_⟩
    · show z.length + 1 ≤ sizeLine
      omega
    refine ⟨.str z, rfl, 1, rfl, z, rfl, by omega, by show 9 ≤ sizeLine; decide, fun l nl => ?_⟩
    have nla : l ≠ a := Hand.ne h1.some nl
    refine ⟨a, l, _, n + 1, rfl, h1.new nl, by omega, nla, upd_same, by show 0 < 9; decide, by show 9 ≤ 1000; decide, fun H2 v u2 h2 mv => ?_⟩
    have u : Upto a H H2 := (u1.trans (.new nl)).trans u2
    have k1 : (z ++ Str.ofString "a").length ≤ 600 := by
      rw [strLen_append]
      show z.length + 1 ≤ 600
      omega
    rcases List.mem_cons.mp mv with rfl | mv
    · exact q _ _ u h2 (by omega)
    rcases List.mem_cons.mp mv with rfl | mv
    · exact q _ _ u h2 (by omega)
    rcases List.mem_cons.mp mv with rfl | mv
    · exact q _ _ u h2 (by decide)
    rcases List.mem_cons.mp mv with rfl | mv
    · exact q _ _ u h2 k1
    rcases List.mem_cons.mp mv with rfl | mv
    · exact q _ _ u h2 (by omega)
    rcases List.mem_cons.mp mv with rfl | mv
    · exact q _ _ u h2 (by omega)
    rcases List.mem_cons.mp mv with rfl | mv
    · exact q _ _ u h2 (by decide)
    rcases List.mem_cons.mp mv with rfl | mv
    · exact q _ _ u h2 (by decide)
    rcases List.mem_cons.mp mv with rfl | mv
    · exact q _ _ u h2 (by decide)
    cases mv
end
end Cu

namespace Cu
open PySem PySem.Spec PyProof.Rows L2
/-! ### law -/
abbrev sLaw : Stmt := topS 17
abbrev nLaw : List Str := ["_law_script", "_law_k", "_law_hand_here", "_law_turn", "_law_content", "_law_spots", "_law_position", "_law_inserted", "_law_edit", "_law_at"]
theorem scL : FnScope nLaw ["_law_script"] (defScope sLaw) := ⟨rfl, rfl, rfl, by decide +kernel, rfl, by decide +kernel, by decide +kernel⟩
theorem aab_asc {c : Nat} (h : c ∈ (Str.ofString "aab").cps.toList) : c < 128 := by
  have e : ∀ c ∈ (Str.ofString "aab").cps.toList, c < 128 := by decide +kernel
  exact e c h
theorem asc_rep {z r : Str} {n : Nat} (h : Asc z) (e : tl r = (List.replicate n (tl z)).flatten) : Asc r := fun c m => by
  rw [e] at m
  obtain ⟨l, ml, mc⟩ := List.mem_flatten.mp m
  rw [List.eq_of_mem_replicate ml] at mc
  exact h c mc
theorem len_rep {z r : Str} {n : Nat} (e : tl r = (List.replicate n (tl z)).flatten) : r.length = n * z.length := by
  rw [← tl_len, e, rep_len, tl_len]
theorem ifg {b : Bool} {ta tb : TE} {Q : VK} {σ : L2.St} {H : Hp} (D : V → Prop) (hA : b = true → (∀ v, D v → Q v H) → ta σ H Q) (hB : ¬ b = true → (∀ v, D v → Q v H) → tb σ H Q) (all : ∀ v, D v → Q v H) : if b = true then ta σ H Q else tb σ H Q := by
  by_cases h : b = true
  · rw [if_pos h]
    exact hA h all
  · rw [if_neg h]
    exact hB h all
section
variable {P : Program} {w : World} {K : PySem.W.Frag} {mg : Str → Option Value} {base : Heap}
def spLaw (K : PySem.W.Frag) : Sp := fun vs H Q _ => ∃ (a : Addr) (ns : List Int), vs = [.ref a] ∧ SqL K H a (ns.map V.int) ∧ ns.length ≤ 63 ∧ ∀ H', Q (.bl true) H'
theorem ok_law {f fH fT fO fR fM : Addr} {fd fdH fdT fdO fdR fdM : FuncData} (F : Fun K "law" "law" sLaw f fd) (DH : Df K mg "_law_hand" sHand ["_law_script", "_law_k"] fH fdH) (DT : Df K mg "_law_take" sTake ["_law_hand_here", "_law_many"] fT fdT) (DO : Df K mg "_law_of" sOf ["_law_hand_here", "_law_some"] fO fdO)
    (DR : Df K mg "_law_right" sRgt pRgt fR fdR) (DM : Df K mg "_law_removed" sRem pRem fM fdM) (GR : FnG P w K mg base CX0 5 fR fdR pRgt (spRgt K)) (T : Bl mg) : FnG P w K mg base CX0 6 f fd ["_law_script"] (spLaw K) := by
  have GH : FnOk P w K mg base CX0 1 fH fdH _ (spHand K) := ok_hand DH.F T
  have GT : FnOk P w K mg base CX0 1 fT fdT _ spTake := ok_take DT.F T
  have GO : FnOk P w K mg base CX0 2 fO fdO _ spOfS := ok_ofS DO.F DT T
  have GL : FnOk P w K mg base CX0 2 fO fdO _ spOfL := ok_ofL DO.F DT T
  have GM : FnOk P w K mg base CX0 3 fM fdM _ spRem := ok_removed DM.F DT DO T
  refine okG F scL (fun vs H Q E h => ?_) (fun cdv A outer s H vs Q E gd hr h => ?_)
  · obtain ⟨a, ns, rfl, _⟩ := h
    rfl
  · obtain ⟨a, ns, rfl, hS, hl, q⟩ := h
    refine ⟨_, (pss_cons (ps_for PassesOwn.never rfl (pi_range1 (by rfl) T.range (pa_cons (pe_callB (call_max2 rfl) (by rfl) T.max (by decide +kernel) (pa_cons pe_int (pa_cons (pe_callB (call_min2 rfl) (by rfl) T.min (by decide +kernel) (pa_cons pe_int (pa_cons (pe_callB call_len_seq (by rfl) T.len PySem.boot_len (pa_cons (pv 0) pa_nil)) pa_nil))) pa_nil))) pa_nil)) (pg_name (i := 1) scL.nd rfl (.inl rfl))
  (pss_cons (ps_set (i := 2) scL.nd rfl (.inr rfl) (pe_call GH (hr.mono (by decide)) (by rfl) DH.g DH.F.kp DH.b .nil pass0 (pa_cons (pv 0) (pa_cons (pv 1) pa_nil))))
  (pss_one (ps_for PassesOwn.never rfl (pi_range1 (by rfl) T.range (pa_cons pe_int pa_nil)) (pg_name (i := 3) scL.nd rfl (.inl rfl))
  (pss_cons (ps_set (i := 4) scL.nd rfl (.inl rfl) (pe_join pe_str (pe_lc (own := [("_law_at", 9)]) (g := gName 9) (tt := tYes) rfl scL.nd (pi_range1 (by rfl) T.range (pa_cons (pe_call GT (hr.mono (by decide)) (by rfl) DT.g DT.F.kp DT.b .nil pass0 (pa_cons (pv 2) (pa_cons pe_int pa_nil))) pa_nil)) (blkOk_by (own := [("_law_at", 9)]) (N := nLaw) (sc := defScope sLaw) (by decide +kernel)) (fun _ _ _ _ _ => (pg_name (i := 9) scL.nd rfl (.inl rfl))) (fun _ _ _ _ _ => pts_nil) (fun _ _ _ _ _ => (pe_call GO (hr.mono (by decide)) (by rfl) DO.g DO.F.kp DO.b .nil pass0 (pa_cons (pv 2) (pa_cons pe_str pa_nil)))))))
  (pss_cons (ps_set (i := 4) scL.nd rfl (.inl rfl) (pe_ifExp (pt_cmpR op_lt (pv 3) pe_int (nomark _)) (pv 4) (pe_op op_mulS (pe_op op_add_str (pv 4) pe_str) pe_int)))
  (pss_cons (ps_set (i := 4) scL.nd rfl (.inl rfl) (pe_slice sl_str (pv 4) po_none (po_some pe_int)))
  (pss_cons (ps_set (i := 5) scL.nd rfl (.inl rfl) (pe_op op_cat (pe_listRg rfl (by rfl) T.list (prg_1 (by rfl) T.range (pe_op op_add (pe_callB (call_min2 rfl) (by rfl) T.min (by decide +kernel) (pa_cons (pe_callB call_len_str (by rfl) T.len PySem.boot_len (pa_cons (pv 4) pa_nil)) (pa_cons pe_int pa_nil))) pe_int)))
     (pe_lst (pa_cons (pe_callB call_len_str (by rfl) T.len PySem.boot_len (pa_cons (pv 4) pa_nil)) (pa_cons (pe_op op_add (pe_callB call_len_str (by rfl) T.len PySem.boot_len (pa_cons (pv 4) pa_nil)) pe_int) (pa_cons (pe_op op_pow pe_int pe_int) pa_nil))))))
  (pss_one (ps_for PassesOwn.never rfl (pi_list (pe_op op_cat (pv 5) (pe_lst (pa_cons (pe_callB (call_max2 rfl) (by rfl) T.max (by decide +kernel) (pa_cons pe_int (pa_cons (pe_op op_sub (pe_callB call_len_str (by rfl) T.len PySem.boot_len (pa_cons (pv 4) pa_nil)) pe_int) pa_nil))) pa_nil)))) (pg_name (i := 6) scL.nd rfl (.inl rfl))
  (pss_cons (ps_set (i := 7) scL.nd rfl (.inl rfl) (pe_call GL (hr.mono (by decide)) (by rfl) DO.g DO.F.kp DO.b .nil pass0 (pa_cons (pv 2) (pa_cons (pe_lst (pa_cons pe_str (pa_cons pe_str (pa_cons pe_str (pa_cons pe_str (pa_cons (pe_op op_mulS pe_str pe_int) pa_nil)))))) pa_nil))))
  (pss_cons (ps_set (i := 8) scL.nd rfl (.inl rfl) (pe_tup (pa_cons (pe_call GL (hr.mono (by decide)) (by rfl) DO.g DO.F.kp DO.b .nil pass0 (pa_cons (pv 2) (pa_cons (pe_lst (pa_cons pe_str (pa_cons pe_str pa_nil))) pa_nil))) (pa_cons (pv 6) (pa_cons (pe_call GM (hr.mono (by decide)) (by rfl) DM.g DM.F.kp DM.b .nil pass0 (pa_cons (pv 2) (pa_cons (pv 4) (pa_cons (pv 6) pa_nil)))) (pa_cons (pv 7) pa_nil))))))
  (pss_one (ps_if (pt_not (pt_val (pe_callG GR gd (hr.mono (by decide)) (by rfl) DR.g DR.F.kp DR.b .nil pass0 (pa_cons (pv 4) (pa_cons (pv 8) pa_nil)))))
  (pss_one (ps_ret pe_bl))
  pss_nil))))))))))))))
  (pss_one (ps_ret pe_bl))), ?_⟩
    have z1 : (100000 : Nat) ≤ sizeLine := by decide
    refine ⟨.ref a, rfl, a, _, rfl, .inl hS, 3, _, rfl, 1, _, rfl, ?_⟩
    rw [List.length_map]
    have hN : (if (if (ns.length : Int) < 3 then (ns.length : Int) else 3) > 1 then (if (ns.length : Int) < 3 then (ns.length : Int) else 3) else 1) ≤ 3 ∧ 0 ≤ (if (if (ns.length : Int) < 3 then (ns.length : Int) else 3) > 1 then (if (ns.length : Int) < 3 then (ns.length : Int) else 3) else 1) := by
      constructor <;> (split <;> (try split) <;> omega)
    generalize (if (if (ns.length : Int) < 3 then (ns.length : Int) else 3) > 1 then (if (ns.length : Int) < 3 then (ns.length : Int) else 3) else 1) = N at hN
    refine ⟨N, rfl, by omega, by omega, ?_⟩
    refine for_range (lo := 0) (n := N.toNat) (fun i σ H1 => ∃ y1 y2 y3 y4 y5 y6 y7 y8 y9 : Option V, σ = [some (.ref a), y1, y2, y3, y4, y5, y6, y7, y8, y9] ∧ Same H H1) ⟨_, _, _, _, _, _, _, _, _, rfl, Same.refl _⟩ ?_ ?_
    · rintro i σ H1 hi ⟨y1, y2, y3, y4, y5, y6, y7, y8, y9, rfl, s1⟩
      refine ⟨.ref a, rfl, .int (0 + (i : Nat)), rfl, a, _, ns, rfl, s1.seq hS, by omega, by omega, fun H2 p s2 np h2 => ?_⟩
      have fp : H p = none := s1.free np
      refine ⟨5, rfl, by decide, by decide, ?_⟩
      refine for_range (lo := 0) (n := 5) (fun j σ H3 => ∃ y3 y4 y5 y6 y7 y8 y9 : Option V, σ = [some (.ref a), some (.int (0 + (i : Nat))), some (.ref p), y3, y4, y5, y6, y7, y8, y9] ∧ Same H H3 ∧ Hand H3 p (400 * j)) ⟨_, _, _, _, _, _, _, rfl, s1.trans s2, h2⟩ ?_ ?_
      · rintro j σ H3 hj ⟨x3, x4, x5, x6, x7, x8, x9, rfl, s3, h3⟩
        -- the content
        refine ⟨⟨_, rfl⟩, .ref p, rfl, p, 31, 400 * j, rfl, h3, by omega, by decide, by decide, fun H4 d u4 h4 d0 d1 => ?_⟩
        refine ⟨d, rfl, by omega, by omega, fun D nD => ?_⟩
        have Dp : D ≠ p := Hand.ne h4.some nD
        have s4 : Same H H4 := same_upto s3 u4 fp
        have fD : H D = none := s4.free nD
        refine lc_range (lo := 0) (n := d.toNat) (fun m H5 => ∃ ys : List Str, H5 D = some (.lst (ys.map V.str)) ∧ ys.length = m ∧ (∀ y ∈ ys, y.length = 1 ∧ Asc y) ∧ Same H H5 ∧ Hand H5 p (400 * j + 1 + m)) ?_ ?_ ?_
        · exact ⟨[], upd_same, rfl, fun y m => (nomatch m), same_put s4 fD, h4.new nD⟩
        · rintro m H5 hm ⟨ys, eD, el, ey, s5, h5⟩
          refine ⟨rfl, lc_yes ?_⟩
          refine ⟨.ref p, rfl, p, _, 400 * j + 1 + m, rfl, h5, by omega, by decide +kernel, by decide +kernel, fun H6 c u6 h6 hc => ?_⟩
          refine ⟨_, u6 D _ Dp eD, ?_, ys ++ [⟨#[c]⟩], ?_, ?_, ?_, ?_, ?_⟩
          · rw [List.length_map, el]
            exact small1000 (by omega)
          · rw [upd_same, List.map_append]
            rfl
          · rw [List.length_append, el]
            rfl
          · intro y my
            rcases List.mem_append.mp my with my | my
            · exact ey y my
            · rw [List.mem_singleton.mp my]
              refine ⟨rfl, fun x mx => ?_⟩
              have ex : x = c := by simpa using mx
              rw [ex]
              exact aab_asc hc
          · exact same_put (same_upto s5 u6 fp) fD
          · exact h6.at (upd_ne Dp.symm)
        rintro H5 ⟨ys, eD, el, ey, s5, h5⟩
        obtain ⟨o1, o2, o3⟩ := ones_join ys ey
        refine ⟨_, D, ys, rfl, rfl, .inl (SqL.of eD), ?_, ?_⟩
        · rw [o1]
          show ys.length + ys.length * 0 ≤ _
          omega
        have cl : (Txt.join (Str.ofString "") ys).length ≤ 30 := by
          rw [← tl_len, tl_join0, o2]
          omega
        have ca : Asc (Txt.join (Str.ofString "") ys) := fun c mc => by
          rw [tl_join0] at mc
          exact o3 c mc
        generalize Txt.join (Str.ofString "") ys = c1 at cl ca ⊢
        refine ⟨.int (0 + (j : Nat)), rfl, 0 + (j : Nat), 4, rfl, rfl, _, rfl, ifg (fun v => ∃ z : Str, v = .str z ∧ Asc z ∧ z.length ≤ 20000) (fun _ all => ⟨.str c1, rfl, all _ ⟨c1, rfl, ca, by omega⟩⟩) (fun _ all => ?_) ?_⟩
        · have lab : (c1 ++ Str.ofString "ab").length = c1.length + 2 := strLen_append _ _
          have aab : Asc (c1 ++ Str.ofString "ab") := fun x mx => by
            rw [tl_app] at mx
            rcases List.mem_append.mp mx with mx | mx
            · exact ca x mx
            · have e : ∀ c ∈ tl (Str.ofString "ab"), c < 128 := by decide +kernel
              exact e x mx
          refine ⟨.str c1, rfl, c1, _, rfl, rfl, ?_, _, 400, rfl, rfl, by decide, by decide, by omega, fun r er => all _ ⟨r, rfl, asc_rep aab er, ?_⟩⟩
          · show c1.length + 2 ≤ sizeLine
            omega
          · rw [len_rep er, lab]
            omega
        rintro _ ⟨c2, rfl, ca2, cl2⟩
        refine ⟨.str c2, rfl, 400, rfl, c2, rfl, by omega, ?_⟩
        have ec : tl (cutS c2 none (some (400 : Int))) = (tl c2).take 400 := cut_left c2 400
        have cl3 : (cutS c2 none (some (400 : Int))).length ≤ 400 := by
          rw [← tl_len, ec, List.length_take]
          omega
        have ca3 : Asc (cutS c2 none (some (400 : Int))) := fun x mx => by
          rw [ec] at mx
          exact ca2 x (List.mem_of_mem_take mx)
        generalize cutS c2 none (some (400 : Int)) = c at cl3 ca3 ⊢
        have zc : c.length ≤ sizeLine := by omega
        -- the spots
        have mn : 0 ≤ (if (30 : Int) < c.length then (30 : Int) else c.length) ∧ (if (30 : Int) < c.length then (30 : Int) else c.length) ≤ 30 := by
          split <;> omega
        refine ⟨.str c, rfl, c, rfl, zc, _, 30, rfl, _, 3, rfl, rfl, _, rfl, ?_⟩
        generalize (if (30 : Int) < c.length then (30 : Int) else c.length) = M at mn ⊢
        refine ⟨.of_le (by decide) (by omega) (by decide) (by omega), fun l1 n1 => ?_⟩
        refine ⟨.str c, rfl, c, rfl, zc, .str c, rfl, c, rfl, zc, _, 1, rfl, rfl, 10, 20, rfl, rfl, ⟨by decide, by decide, by decide⟩, by show 3 ≤ sizeLine; decide, fun l2 n2 => ?_⟩
        have l12 : l1 ≠ l2 := ne_of_none upd_same n2
        have rl : (rgV 0 (M + 3)).length ≤ 33 := by
          rw [rgV_length]
          omega
        refine ⟨l1, l2, _, _, rfl, rfl, (upd_ne l12).trans upd_same, upd_same, ?_, fun l3 n3 => ?_⟩
        · show (rgV 0 (M + 3)).length + 3 ≤ sizeLine
          omega
        refine ⟨.ref l3, rfl, .str c, rfl, c, rfl, zc, _, 1, rfl, rfl, 0, _, rfl, by show 1 ≤ sizeLine; decide, fun l4 n4 => ?_⟩
        have l34 : l3 ≠ l4 := ne_of_none upd_same n4
        refine ⟨l3, l4, _, _, rfl, rfl, (upd_ne l34).trans upd_same, upd_same, ?_, fun l5 n5 => ?_⟩
        · rw [List.length_append]
          show (rgV 0 (M + 3)).length + 3 + 1 ≤ sizeLine
          omega
        refine ⟨l5, rfl, ⟨_, SqL.of upd_same⟩, ?_⟩
        have s9 := fun o : HO => (((same_upd n1).trans (same_upd n2)).trans (same_upd n3)).trans (same_upd (o := o) n4)
        have lp : l5 ≠ p := Hand.ne (h5.same (s9 _)).some n5
        have s10 := fun o : HO => (s9 _).trans (same_upd (o := o) n5)
        have hx : ∀ v ∈ rgV 0 (M + 3) ++ [V.int (c.length : Int), .int ((c.length : Int) + 1), .int (10 ^ (20 : Int).toNat)] ++ [V.int (if (c.length : Int) - 1 > 0 then (c.length : Int) - 1 else 0)], ∃ k : Nat, v = .int (k : Int) := by
          intro v mv
          have ge : ∀ z : Int, 0 ≤ z → ∃ k : Nat, V.int z = .int (k : Int) := fun z hz => ⟨z.toNat, by rw [Int.toNat_of_nonneg hz]⟩
          rcases List.mem_append.mp mv with mv | mv
          · rcases List.mem_append.mp mv with mv | mv
            · unfold rgV at mv
              obtain ⟨k, _, rfl⟩ := List.mem_map.mp mv
              exact ge _ (by omega)
            · rcases List.mem_cons.mp mv with rfl | mv
              · exact ge _ (by omega)
              rcases List.mem_cons.mp mv with rfl | mv
              · exact ge _ (by omega)
              rw [List.mem_singleton.mp mv]
              exact ge _ (by decide)
          · rw [List.mem_singleton.mp mv]
            refine ge _ ?_
            split <;> omega
        have hxl : (rgV 0 (M + 3) ++ [V.int (c.length : Int), .int ((c.length : Int) + 1), .int (10 ^ (20 : Int).toNat)] ++ [V.int (if (c.length : Int) - 1 > 0 then (c.length : Int) - 1 else 0)]).length ≤ 37 := by
          rw [List.length_append, List.length_append]
          show (rgV 0 (M + 3)).length + 3 + 1 ≤ 37
          omega
        refine for_list (K := K) (a := l5) (xs := rgV 0 (M + 3) ++ [V.int (c.length : Int), .int ((c.length : Int) + 1), .int (10 ^ (20 : Int).toNat)] ++ [V.int (if (c.length : Int) - 1 > 0 then (c.length : Int) - 1 else 0)])
          (fun m σ H6 => ∃ y6 y7 y8 y9 : Option V, σ = [some (.ref a), some (.int (0 + (i : Nat))), some (.ref p), some (.int (0 + (j : Nat))), some (.str c), some (.ref l3), y6, y7, y8, y9] ∧
            H6 l5 = some (.lst (rgV 0 (M + 3) ++ [V.int (c.length : Int), .int ((c.length : Int) + 1), .int (10 ^ (20 : Int).toNat)] ++ [V.int (if (c.length : Int) - 1 > 0 then (c.length : Int) - 1 else 0)])) ∧ Same H H6 ∧ Hand H6 p (400 * j + 31 + 6 * m)) ?_ ?_ ?_ ?_
        · exact ⟨_, _, _, _, rfl, upd_same, s5.trans (s10 _), (h5.same (s10 _)).mono (by omega)⟩
        · rintro m σ H6 _ ⟨_, _, _, _, _, e5, _⟩
          exact SqL.of e5
        · rintro m x σ H6 hx1 ⟨y6, y7, y8, y9, rfl, e5, s6, h6⟩
          obtain ⟨po, rfl⟩ := hx x (List.mem_of_getElem? hx1)
          have hm : m < 37 := by
            have := (List.getElem?_eq_some_iff.mp hx1).1
            omega
          generalize rgV 0 (M + 3) ++ [V.int (c.length : Int), .int ((c.length : Int) + 1), .int (10 ^ (20 : Int).toNat)] ++ [V.int (if (c.length : Int) - 1 > 0 then (c.length : Int) - 1 else 0)] = xs at e5 ⊢
          -- what is inserted
          refine ⟨.ref p, rfl, Str.ofString "b", 400, rfl, rfl, by decide, by decide, by decide, fun r1 er1 => ⟨by show 5 ≤ sizeLine; decide, fun l nl => ?_⟩⟩
          have nlp : l ≠ p := Hand.ne h6.some nl
          refine ⟨p, l, _, 400 * j + 31 + 6 * m, rfl, h6.new nl, by omega, nlp, upd_same, by show 0 < 5; decide, by show 5 ≤ 1000; decide, fun H7 v u7 h7 mv => ?_⟩
          have hv : ∃ ins : Str, v = .str ins ∧ Asc ins ∧ ins.length ≤ 1000 := by
            have lb : r1.length ≤ 1000 := by
              rw [len_rep er1]
              show 400 * 1 ≤ 1000
              decide
            have ab : Asc r1 := asc_rep (z := Str.ofString "b") (by show ∀ c ∈ tl (Str.ofString "b"), c < 128; decide +kernel) er1
            rcases List.mem_cons.mp mv with rfl | mv
            · exact ⟨_, rfl, by show ∀ c ∈ tl (Str.ofString ""), c < 128; decide +kernel, by decide⟩
            rcases List.mem_cons.mp mv with rfl | mv
            · exact ⟨_, rfl, by show ∀ c ∈ tl (Str.ofString ""), c < 128; decide +kernel, by decide⟩
            rcases List.mem_cons.mp mv with rfl | mv
            · exact ⟨_, rfl, by show ∀ c ∈ tl (Str.ofString "a"), c < 128; decide +kernel, by decide⟩
            rcases List.mem_cons.mp mv with rfl | mv
            · exact ⟨_, rfl, by show ∀ c ∈ tl (Str.ofString "xyz"), c < 128; decide +kernel, by decide⟩
            rw [List.mem_singleton.mp mv]
            exact ⟨r1, rfl, ab, lb⟩
          obtain ⟨ins, rfl, ai, li⟩ := hv
          have s7 : Same H H7 := same_upto (s6.trans (same_upd nl)) u7 fp
          have e7 := u7 _ _ lp (same_upd (o := .lst [V.str (Str.ofString ""), .str (Str.ofString ""), .str (Str.ofString "a"), .str (Str.ofString "xyz"), .str r1]) nl _ _ e5)
          -- the edit
          refine ⟨.ref p, rfl, by show 2 ≤ sizeLine; decide, fun k nk => ?_⟩
          have nkp : k ≠ p := Hand.ne h7.some nk
          refine ⟨p, k, _, 400 * j + 31 + 6 * m + 1, rfl, h7.new nk, by omega, nkp, upd_same, by show 0 < 2; decide, by show 2 ≤ 1000; decide, fun H8 v u8 h8 mv => ?_⟩
          have hv : ∃ d : Str, v = .str d ∧ Asc d ∧ d.length ≤ 1000 := by
            rcases List.mem_cons.mp mv with rfl | mv
            · exact ⟨_, rfl, by show ∀ c ∈ tl (Str.ofString "a"), c < 128; decide +kernel, by decide⟩
            rw [List.mem_singleton.mp mv]
            exact ⟨_, rfl, by show ∀ c ∈ tl (Str.ofString "doc"), c < 128; decide +kernel, by decide⟩
          obtain ⟨dc, rfl, ad, ld⟩ := hv
          have s8 : Same H H8 := same_upto (s7.trans (same_upd nk)) u8 fp
          have e8 := u8 _ _ lp (same_upd (o := .lst [V.str (Str.ofString "a"), .str (Str.ofString "doc")]) nk _ _ e7)
          refine ⟨.int po, rfl, .ref p, rfl, .str c, rfl, .int po, rfl, p, c, po, 400 * j + 31 + 6 * m + 2, rfl, h8, by omega, by omega, fun H9 r u9 h9 lr => ?_⟩
          have s9 : Same H H9 := same_upto s8 u9 fp
          have e9 := u9 _ _ lp e8
          refine ⟨.str ins, rfl, by show 4 ≤ sizeLine; decide, fun t nt => ?_⟩
          refine ⟨.str c, rfl, .ref t, rfl, c, dc, r, ins, t, po, rfl, upd_same, by omega, by omega, by omega, by omega, ca3, ai, ad, fun Hz sz => ?_⟩
          refine ⟨_, rfl, iffF rfl ?_⟩
          have st := (same_upd (o := .tup [.str dc, .int (po : Int), .str r, .str ins]) nt).trans sz
          exact ⟨_, _, _, _, rfl, st _ _ e9, s9.trans st, (h9.same st).mono (by omega)⟩
        · rintro σ H6 ⟨y6, y7, y8, y9, rfl, e5, s6, h6⟩
          exact ⟨_, _, _, _, _, _, _, rfl, s6, h6.mono (by omega)⟩
      · rintro σ H3 ⟨x3, x4, x5, x6, x7, x8, x9, rfl, s3, h3⟩
        exact ⟨_, _, _, _, _, _, _, _, _, rfl, s3⟩
    · rintro σ H1 ⟨y1, y2, y3, y4, y5, y6, y7, y8, y9, rfl, s1⟩
      exact q _
end
end Cu

namespace Cu
open PySem PySem.Spec PyProof.Rows L2
theorem kit_self {K : PySem.W.Frag} {C : Addr} : PySem.W.kitOne K (.ref C) (.ref C) = some true := by
  unfold PySem.W.kitOne
  rw [if_pos (beq_iff_eq.mpr rfl)]
theorem all_mk {w : World} {K : PySem.W.Frag} {h : Heap} {mg : Str → Option Value} {fa fF fA fH fT fO fS fU fR fM fL : Addr} (X : K.In h) (G : h.Ns mainGlobals mg) (hfa : mg "law" = some (.ref fa))
    {odF anF odA anA odH anH odT anT odO anO odS anS odU anU odR anR odM anM odL anL : Option Addr} {slF slA slH slT slO slS slU slR slM slL : Array (Option Value)} {ocF kVF dcF pmF ctF cdF ocA kVA dcA pmA ctA cdA ocH kVH dcH pmH ctH cdH ocT kVT dcT pmT ctT cdT ocO kVO dcO pmO ctO cdO ocS kVS dcS pmS ctS cdS ocU kVU dcU pmU ctU cdU ocR kVR dcR pmR ctR cdR ocM kVM dcM pmM ctM cdM ocL kVL dcL pmL ctL cdL : Value}
    {C Un C1 C2 C3 fI : Addr} {nm qq : Str} {NN : Addr} {bs bm : List Value} {sn : List Str} {sub : List Value} {ab : Bool} {col : Option Bool} {dd : Option Addr} {m0 m1 m2 m3 m5 : Option Value} {odI anI : Option Addr} {slI : Array (Option Value)} {ocI kVI dcI pmI cdI ctI : Value}
    (aF : PySem.W.nsIn K mainGlobals "fits" = some (some (.ref fF))) (lF : K.lookup fF = some ⟨ocF, odF, .func (PySem.W.fnOf "fits" "fits" (defArgs sFits) (defBody sFits) (defScope sFits) .none kVF dcF pmF anF cdF ctF), slF⟩)
    (cF : PySem.W.codeIn K cdF "fits" = true) (kF : PySem.W.keepIn K (.ref fF) = true)
    (aA : PySem.W.nsIn K mainGlobals "apply" = some (some (.ref fA))) (lA : K.lookup fA = some ⟨ocA, odA, .func (PySem.W.fnOf "apply" "apply" (defArgs sApply) (defBody sApply) (defScope sApply) .none kVA dcA pmA anA cdA ctA), slA⟩)
    (cA : PySem.W.codeIn K cdA "apply" = true) (kA : PySem.W.keepIn K (.ref fA) = true)
    (aH : PySem.W.nsIn K mainGlobals "_law_hand" = some (some (.ref fH))) (lH : K.lookup fH = some ⟨ocH, odH, .func (PySem.W.fnOf "_law_hand" "_law_hand" (defArgs sHand) (defBody sHand) (defScope sHand) .none kVH dcH pmH anH cdH ctH), slH⟩)
    (cH : PySem.W.codeIn K cdH "_law_hand" = true) (kH : PySem.W.keepIn K (.ref fH) = true)
    (aT : PySem.W.nsIn K mainGlobals "_law_take" = some (some (.ref fT))) (lT : K.lookup fT = some ⟨ocT, odT, .func (PySem.W.fnOf "_law_take" "_law_take" (defArgs sTake) (defBody sTake) (defScope sTake) .none kVT dcT pmT anT cdT ctT), slT⟩)
    (cT : PySem.W.codeIn K cdT "_law_take" = true) (kT : PySem.W.keepIn K (.ref fT) = true)
    (aO : PySem.W.nsIn K mainGlobals "_law_of" = some (some (.ref fO))) (lO : K.lookup fO = some ⟨ocO, odO, .func (PySem.W.fnOf "_law_of" "_law_of" (defArgs sOf) (defBody sOf) (defScope sOf) .none kVO dcO pmO anO cdO ctO), slO⟩)
    (cO : PySem.W.codeIn K cdO "_law_of" = true) (kO : PySem.W.keepIn K (.ref fO) = true)
    (aS : PySem.W.nsIn K mainGlobals "_law_stands" = some (some (.ref fS))) (lS : K.lookup fS = some ⟨ocS, odS, .func (PySem.W.fnOf "_law_stands" "_law_stands" (defArgs sStd) (defBody sStd) (defScope sStd) .none kVS dcS pmS anS cdS ctS), slS⟩)
    (cS : PySem.W.codeIn K cdS "_law_stands" = true) (kS : PySem.W.keepIn K (.ref fS) = true)
    (aU : PySem.W.nsIn K mainGlobals "_law_outcome" = some (some (.ref fU))) (lU : K.lookup fU = some ⟨ocU, odU, .func (PySem.W.fnOf "_law_outcome" "_law_outcome" (defArgs sOut) (defBody sOut) (defScope sOut) .none kVU dcU pmU anU cdU ctU), slU⟩)
    (cU : PySem.W.codeIn K cdU "_law_outcome" = true) (kU : PySem.W.keepIn K (.ref fU) = true)
    (aR : PySem.W.nsIn K mainGlobals "_law_right" = some (some (.ref fR))) (lR : K.lookup fR = some ⟨ocR, odR, .func (PySem.W.fnOf "_law_right" "_law_right" (defArgs sRgt) (defBody sRgt) (defScope sRgt) .none kVR dcR pmR anR cdR ctR), slR⟩)
    (cR : PySem.W.codeIn K cdR "_law_right" = true) (kR : PySem.W.keepIn K (.ref fR) = true)
    (aM : PySem.W.nsIn K mainGlobals "_law_removed" = some (some (.ref fM))) (lM : K.lookup fM = some ⟨ocM, odM, .func (PySem.W.fnOf "_law_removed" "_law_removed" (defArgs sRem) (defBody sRem) (defScope sRem) .none kVM dcM pmM anM cdM ctM), slM⟩)
    (cM : PySem.W.codeIn K cdM "_law_removed" = true) (kM : PySem.W.keepIn K (.ref fM) = true)
    (aL : PySem.W.nsIn K mainGlobals "law" = some (some (.ref fL))) (lL : K.lookup fL = some ⟨ocL, odL, .func (PySem.W.fnOf "law" "law" (defArgs sLaw) (defBody sLaw) (defScope sLaw) .none kVL dcL pmL anL cdL ctL), slL⟩)
    (cL : PySem.W.codeIn K cdL "law" = true) (kL : PySem.W.keepIn K (.ref fL) = true)
    (aC : PySem.W.nsIn K mainGlobals "EditMismatch" = some (some (.ref C)))
    (aU0 : PySem.W.nsIn K mainGlobals "UndoError" = some (some (.ref Un)))
    (a1 : PySem.W.nsIn K mainGlobals "BadContent" = some (some (.ref C1)))
    (a2 : PySem.W.nsIn K mainGlobals "BadEdits" = some (some (.ref C2)))
    (a3 : PySem.W.nsIn K mainGlobals "NoDocument" = some (some (.ref C3)))
    (xL : K.lookup C = some (excClassObj nm qq C NN bs bm true sn sub ab col dd m0 m1 m2 m3 m5 "ValueError.__new__"))
    (rv : PySem.HandSPX.refsVE bm = true)
    (sa : PySem.W.findIn K (.ref C) "__setattr__" = some (some (.builtin "object.__setattr__")))
    (ga : PySem.W.findIn K (.ref C) "__getattribute__" = some (some (.builtin "BaseException.__getattribute__")))
    (gg : PySem.W.findIn K (.ref C) "__getattr__" = some none)
    (no : PySem.W.findIn K (.ref C) "document" = some none)
    (iC : PySem.W.findIn K (.ref C) "__init__" = some (some (.ref fI)))
    (tI : PySem.W.typeIn K (.ref fI) = some (.type "function"))
    (lI : K.lookup fI = some ⟨ocI, odI, .func (PySem.W.fnOf "__init__" "EditMismatch.__init__" (defArgs sInit) (defBody sInit) (defScope sInit) .none kVI dcI pmI anI cdI ctI), slI⟩)
    (cI : PySem.W.codeIn K cdI "EditMismatch.__init__" = true)
    (kI : PySem.W.keepIn K (.ref fI) = true)
    (kC : PySem.W.keepIn K (.ref C) = true)
    (eC : PySem.W.subIn K (.ref C) (.type "BaseException") = some true)
    (tC : PySem.W.typeIn K (.ref C) = some (.type "type"))
    (hC : PySem.W.hasDictIn K C = true)
    (xa : PySem.W.findIn K (.ref C) "__class__" = some (some (.builtin "object.__class__")))
    (xn : PySem.W.specialIn K (.builtin "object.__class__") "__get__" = some (some (.builtin "getset_descriptor.__get__")))
    (xt : PySem.W.takesIn K (.builtin "object.__class__") = some true)
    (xm : PySem.W.mroIn K C (.type "object") = some true)
    (eU : PySem.W.subIn K (.ref Un) (.type "BaseException") = some true)
    (hU : PySem.W.hasDictIn K Un = true)
    (tU : PySem.W.typeIn K (.ref Un) = some (.type "type"))
    (sU : PySem.W.subIn K (.ref C) (.ref Un) = some true)
    (ka : PySem.W.kitAny K (.ref C) [.ref C1, .ref C2, .ref C3] = some false)
    (z_len : PySem.W.nsIn K mainGlobals "len" = some none)
    (z_abs : PySem.W.nsIn K mainGlobals "abs" = some none)
    (z_int : PySem.W.nsIn K mainGlobals "int" = some none)
    (z_range : PySem.W.nsIn K mainGlobals "range" = some none)
    (z_max : PySem.W.nsIn K mainGlobals "max" = some none)
    (z_min : PySem.W.nsIn K mainGlobals "min" = some none)
    (z_all : PySem.W.nsIn K mainGlobals "all" = some none)
    (z_list : PySem.W.nsIn K mainGlobals "list" = some none)
    (z_enumerate : PySem.W.nsIn K mainGlobals "enumerate" = some none)
    (z_isinstance : PySem.W.nsIn K mainGlobals "isinstance" = some none)
    (z_repr : PySem.W.nsIn K mainGlobals "repr" = some none) : LawG PySem.Challenge.rw_crossundo_k04_edits_applied w K 6 63 "_law_script" mg fa h := by
  have e := hfa.symm.trans (PySem.W.mg_of X G aL)
  cases e
  have T : Bl mg := { len := PySem.W.mg_none_of X G z_len, abs := PySem.W.mg_none_of X G z_abs, int := PySem.W.mg_none_of X G z_int, range := PySem.W.mg_none_of X G z_range, max := PySem.W.mg_none_of X G z_max, min := PySem.W.mg_none_of X G z_min, all := PySem.W.mg_none_of X G z_all, list := PySem.W.mg_none_of X G z_list, enumerate := PySem.W.mg_none_of X G z_enumerate, isinstance := PySem.W.mg_none_of X G z_isinstance, repr := PySem.W.mg_none_of X G z_repr }
  have FF := fun_mk (st := sFits) lF cF kF
  have DF : Df K mg "fits" sFits ["content", "edit"] fF _ := ⟨FF, PySem.W.mg_of X G aF, FF.binds (ps := ["content", "edit"]) fun _ _ _ _ _ _ us hl => match us, hl with | [_, _], _ => rfl⟩
  have FA := fun_mk (st := sApply) lA cA kA
  have DA : Df K mg "apply" sApply ["content", "edit"] fA _ := ⟨FA, PySem.W.mg_of X G aA, FA.binds (ps := ["content", "edit"]) fun _ _ _ _ _ _ us hl => match us, hl with | [_, _], _ => rfl⟩
  have FH := fun_mk (st := sHand) lH cH kH
  have DH : Df K mg "_law_hand" sHand ["_law_script", "_law_k"] fH _ := ⟨FH, PySem.W.mg_of X G aH, FH.binds (ps := ["_law_script", "_law_k"]) fun _ _ _ _ _ _ us hl => match us, hl with | [_, _], _ => rfl⟩
  have FT := fun_mk (st := sTake) lT cT kT
  have DT : Df K mg "_law_take" sTake ["_law_hand_here", "_law_many"] fT _ := ⟨FT, PySem.W.mg_of X G aT, FT.binds (ps := ["_law_hand_here", "_law_many"]) fun _ _ _ _ _ _ us hl => match us, hl with | [_, _], _ => rfl⟩
  have FO := fun_mk (st := sOf) lO cO kO
  have DO : Df K mg "_law_of" sOf ["_law_hand_here", "_law_some"] fO _ := ⟨FO, PySem.W.mg_of X G aO, FO.binds (ps := ["_law_hand_here", "_law_some"]) fun _ _ _ _ _ _ us hl => match us, hl with | [_, _], _ => rfl⟩
  have FS := fun_mk (st := sStd) lS cS kS
  have DS : Df K mg "_law_stands" sStd ["_law_content", "_law_position", "_law_removed_here"] fS _ := ⟨FS, PySem.W.mg_of X G aS, FS.binds (ps := ["_law_content", "_law_position", "_law_removed_here"]) fun _ _ _ _ _ _ us hl => match us, hl with | [_, _, _], _ => rfl⟩
  have FU := fun_mk (st := sOut) lU cU kU
  have DU : Df K mg "_law_outcome" sOut ["_law_content", "_law_edit"] fU _ := ⟨FU, PySem.W.mg_of X G aU, FU.binds (ps := ["_law_content", "_law_edit"]) fun _ _ _ _ _ _ us hl => match us, hl with | [_, _], _ => rfl⟩
  have FR := fun_mk (st := sRgt) lR cR kR
  have DR : Df K mg "_law_right" sRgt ["_law_content", "_law_edit"] fR _ := ⟨FR, PySem.W.mg_of X G aR, FR.binds (ps := ["_law_content", "_law_edit"]) fun _ _ _ _ _ _ us hl => match us, hl with | [_, _], _ => rfl⟩
  have FM := fun_mk (st := sRem) lM cM kM
  have DM : Df K mg "_law_removed" sRem ["_law_hand_here", "_law_content", "_law_position"] fM _ := ⟨FM, PySem.W.mg_of X G aM, FM.binds (ps := ["_law_hand_here", "_law_content", "_law_position"]) fun _ _ _ _ _ _ us hl => match us, hl with | [_, _, _], _ => rfl⟩
  have FL := fun_mk (st := sLaw) lL cL kL
  refine ⟨PySem.W.fnOf "law" "law" (defArgs sLaw) (defBody sLaw) (defScope sLaw) .none kVL dcL pmL anL cdL ctL, [], spLaw K, (fun _ m => (nomatch m)), (fun _ m => (nomatch m)), (fun _ m => (nomatch m)), fun s v => .of_eq rfl, fun H a ns hl _ hS => ⟨a, ns, rfl, hS, hl, fun _ => rfl⟩, fun base _ _ TB sy => ?_⟩
  have FI := fun_mk (st := sInit) lI cI kI
  have bI : Binds K _ ["self", "document"] [] := FI.binds (ps := ["self", "document"]) fun _ _ _ _ _ _ us hl => match us, hl with | [_, _], _ => rfl
  have R : Er K mg C fI := ⟨PySem.W.mg_of X G aC, ⟨⟨nm, qq, NN, bs, bm, sn, sub, ab, col, dd, m0, m1, m2, m3, m5, xL, rv⟩, sa, eC, tC, kC⟩, ⟨ga, gg, eC, hC⟩, ⟨ga, gg, eC, hC, xa, xn, xt, xm⟩, no, iC, tI⟩
  have CL : Cl K mg C Un C1 C2 C3 := ⟨PySem.W.mg_of X G aU0, PySem.W.mg_of X G a1, PySem.W.mg_of X G a2, PySem.W.mg_of X G a3, PySem.W.exm_ref eU hU tU sU, kit_self, ka⟩
  have GA : FnOk PySem.Challenge.rw_crossundo_k04_edits_applied.prog w K mg base (L2.CX PySem.Challenge.rw_crossundo_k04_edits_applied.prog w) 3 _ _ pFits (spApplyX K C) := ok_apply FA DF FI bI R T
  have GU : FnOk PySem.Challenge.rw_crossundo_k04_edits_applied.prog w K mg base CX0 4 _ _ pOut (spOut K) := ok_out FU DA GA R CL T
  exact ok_law FL DH DT DO DR DM (ok_right FR DF DS DU GU T) T
end Cu
open PySem PySem.W PyProof.Rows
set_option maxRecDepth 100000 in
set_option maxHeartbeats 0 in
theorem PySem.Challenge.cw_crossundo_k04_edits_applied_holds : PySem.Challenge.rw_crossundo_k04_edits_applied.Holds := by
  w_on; o_law; k_head; (case hw => w_witness2)
  k_fill
  refine Cu.walkG (l := PySem.Challenge.rw_crossundo_k04_edits_applied) (n := 63) (k := 6) (x := "_law_script") rfl (by decide) rfl ⟨rfl, by decide, by decide⟩ (fun w h Y => PySem.W.kIn_of Y) (by rfl) ?F
  case F =>
    intro w mg mb mean fa h TT Y KX G hmg
    refine' Cu.all_mk KX G hmg ?aF ?lF ?cF ?kF ?aA ?lA ?cA ?kA ?aH ?lH ?cH ?kH ?aT ?lT ?cT ?kT ?aO ?lO ?cO ?kO ?aS ?lS ?cS ?kS ?aU ?lU ?cU ?kU ?aR ?lR ?cR ?kR ?aM ?lM ?cM ?kM ?aL ?lL ?cL ?kL ?aC ?aU0 ?a1 ?a2 ?a3 ?xL ?rv ?sa ?ga ?gg ?no ?iC ?tI ?lI ?cI ?kI ?kC ?eC ?tC ?hC ?xa ?xn ?xt ?xm ?eU ?hU ?tU ?sU ?ka ?z_len ?z_abs ?z_int ?z_range ?z_max ?z_min ?z_all ?z_list ?z_enumerate ?z_isinstance ?z_repr
    (case aF => k_is)
    (case lF => k_is)
    (case cF => k_is)
    (case kF => k_is)
    (case aA => k_is)
    (case lA => k_is)
    (case cA => k_is)
    (case kA => k_is)
    (case aH => k_is)
    (case lH => k_is)
    (case cH => k_is)
    (case kH => k_is)
    (case aT => k_is)
    (case lT => k_is)
    (case cT => k_is)
    (case kT => k_is)
    (case aO => k_is)
    (case lO => k_is)
    (case cO => k_is)
    (case kO => k_is)
    (case aS => k_is)
    (case lS => k_is)
    (case cS => k_is)
    (case kS => k_is)
    (case aU => k_is)
    (case lU => k_is)
    (case cU => k_is)
    (case kU => k_is)
    (case aR => k_is)
    (case lR => k_is)
    (case cR => k_is)
    (case kR => k_is)
    (case aM => k_is)
    (case lM => k_is)
    (case cM => k_is)
    (case kM => k_is)
    (case aL => k_is)
    (case lL => k_is)
    (case cL => k_is)
    (case kL => k_is)
    (case aC => k_is)
    (case aU0 => k_is)
    (case a1 => k_is)
    (case a2 => k_is)
    (case a3 => k_is)
    (case xL => k_is)
    (case rv => first | rfl | decide +kernel)
    (case sa => k_is)
    (case ga => k_is)
    (case gg => k_is)
    (case no => k_is)
    (case iC => k_is)
    (case tI => k_is)
    (case lI => k_is)
    (case cI => k_is)
    (case kI => k_is)
    (case kC => k_is)
    (case eC => k_is)
    (case tC => k_is)
    (case hC => k_is)
    (case xa => k_is)
    (case xn => k_is)
    (case xt => k_is)
    (case xm => k_is)
    (case eU => k_is)
    (case hU => k_is)
    (case tU => k_is)
    (case sU => first | k_is | rfl)
    (case ka => first | kit_is | k_is | rfl)
    (case z_len => k_is)
    (case z_abs => k_is)
    (case z_int => k_is)
    (case z_range => k_is)
    (case z_max => k_is)
    (case z_min => k_is)
    (case z_all => k_is)
    (case z_list => k_is)
    (case z_enumerate => k_is)
    (case z_isinstance => k_is)
    (case z_repr => k_is)
