import PyProof.Rows.All
import Wide.All
import OpenK.AllK
import Wide.FinOn
import HandS.ForMost
import HandS.Wide
import HandS.Style
import HandS.TupAny
import PyProof.ReprRoads
import HandS.AnyAll
import HandS.EndTab
import HandS.FStrTup
import PySem.Challenge.RW_crossundo_k05_inverse_edits
set_option Elab.async false
set_option linter.all false
set_option maxRecDepth 100000
set_option maxHeartbeats 4000000
namespace Cu
open PySem PySem.Spec PyProof.Rows L2
/-- all but the object at a is as it was -/
def Upto (a : Addr) (H H' : Hp) : Prop := ∀ b o, b ≠ a → H b = some o → H' b = some o
theorem Upto.refl (a : Addr) (H : Hp) : Upto a H H := fun _ _ _ e => e
theorem Upto.trans {a : Addr} {H H1 H2 : Hp} (x : Upto a H H1) (y : Upto a H1 H2) : Upto a H H2 := fun b o n e => y b o n (x b o n e)
theorem Upto.of {a : Addr} {H H' : Hp} (x : Same H H') : Upto a H H' := fun b o _ e => x b o e
theorem Upto.upd {a : Addr} {H : Hp} {o : HO} : Upto a H (upd H a o) := fun b u n e => by rw [upd_ne n]; exact e
theorem same_upd {H : Hp} {p : Addr} {o : HO} (h : H p = none) : Same H (upd H p o) := fun b x e => by
  rw [upd_ne (ne_of_none e h)]
  exact e
theorem Upto.new {a p : Addr} {H : Hp} {o : HO} (h : H p = none) : Upto a H (L2.upd H p o) := .of (same_upd h)
theorem Upto.free {a l : Addr} {H H1 : Hp} (u : Upto a H H1) (n : l ≠ a) (e : H1 l = none) : H l = none := by
  cases h : H l with
  | none => rfl
  | some o =>
    rw [u l o n h] at e
    cases e
theorem Upto.put {a l : Addr} {H H2 : Hp} {o : HO} (u : Upto a H H2) (e : H l = none) : Upto a H (L2.upd H2 l o) := fun b x n eb => by
  rw [upd_ne (ne_of_none eb e)]
  exact u b x n eb
theorem Hand.ne {H : Hp} {a l : Addr} (h : ∃ o, H a = some o) (e : H l = none) : l ≠ a := fun z => by
  obtain ⟨o, eo⟩ := h
  rw [z, eo] at e
  cases e
theorem iffF {b : Bool} {A B : Prop} (h : b = false) (hB : B) : if b = true then A else B := by
  rw [h, if_neg Bool.false_ne_true]
  exact hB
theorem iffT {b : Bool} {A B : Prop} (h : b = true) (hA : A) : if b = true then A else B := by
  rw [h, if_pos rfl]
  exact hA
theorem ne_self (x : V) : (!decide (x = x)) = false := by
  rw [decide_eq_true rfl]
  rfl
theorem Upto.list {a l : Addr} {H H' : Hp} {xs : List V} (u : Upto a H H') (n : l ≠ a) (e : H l = some (.lst xs)) : H' l = some (.lst xs) := u l _ n e
/-- the hand: three ints; the third counts at most n draws -/
def Hand (H : Hp) (a : Addr) (n : Nat) : Prop := ∃ g x c : Int, H a = some (.lst [.int g, .int x, .int c]) ∧ 0 ≤ g ∧ g < 2 ^ 600 ∧ 0 ≤ x ∧ x < 2147483647 ∧ 0 ≤ c ∧ c ≤ n
theorem Hand.mono {H : Hp} {a : Addr} {n m : Nat} (h : Hand H a n) (l : n ≤ m) : Hand H a m := by
  obtain ⟨g, x, c, h1, h2, h3, h4, h5, h6, h7⟩ := h
  exact ⟨g, x, c, h1, h2, h3, h4, h5, h6, by omega⟩
theorem Hand.same {H H' : Hp} {a : Addr} {n : Nat} (h : Hand H a n) (s : Same H H') : Hand H' a n := by
  obtain ⟨g, x, c, h1, h2⟩ := h
  exact ⟨g, x, c, s _ _ h1, h2⟩
theorem Hand.at {H H' : Hp} {a : Addr} {n : Nat} (h : Hand H a n) (s : H' a = H a) : Hand H' a n := by
  obtain ⟨g, x, c, h1, h2⟩ := h
  exact ⟨g, x, c, s.trans h1, h2⟩
theorem Hand.some {H : Hp} {a : Addr} {n : Nat} (h : Hand H a n) : ∃ o, H a = some o := by
  obtain ⟨g, x, c, h1, h2⟩ := h
  exact ⟨_, h1⟩
theorem Hand.new {H : Hp} {a p : Addr} {o : HO} {n : Nat} (h : Hand H a n) (e : H p = none) : Hand (L2.upd H p o) a n := h.same (same_upd e)
section
variable {X : Cx}
/-- data that repr can show -/
structure Shw (d : PyData) : Prop where
  show_ : d.showable = true
  dict : d.hasDict = false
  dep : d.depth ≤ 60
  len : d.shown.length ≤ sizeLine
/-- repr(x) of data: None, bools, ints, texts, lists, tuples -/
def rReprD (K : PySem.W.Frag) : List V → Hp → VK → Prop := fun xs H Q => ∃ x d, xs = [x] ∧ Dp K H x d ∧ Shw d ∧ Q (.str d.shown) H
theorem call_reprD (hg : X.A.guards = some []) (hu : X.A.units + 64 < cLine) : CallR X (.builtin "repr") (rReprD X.K) := by
  intro pins s σ H xs us Q I r h
  obtain ⟨x, d, rfl, hd, ⟨hs, hn, h6, hz⟩, q⟩ := h
  obtain ⟨u, rfl, ru⟩ := vals1 r
  obtain ⟨as, rd⟩ := Dp.reads I d x u hd ru
  cases hd with
  | non =>
    cases ru
    exact PySem.P.repr_of_none ⟨.str _, H, I.tok _, ⟨_, rfl⟩, q⟩
  | bl b =>
    cases ru
    cases b
    · exact PySem.P.repr_of_bool ⟨.str _, H, I.tok _, ⟨_, rfl⟩, q⟩
    · exact PySem.P.repr_of_bool ⟨.str _, H, I.tok _, ⟨_, rfl⟩, q⟩
  | int i =>
    obtain ⟨t, rfl⟩ := ru
    refine PySem.P.repr_of_int ?_ ⟨.str _, H, I.tok _, ⟨_, rfl⟩, q⟩
    exact of_decide_eq_true hs
  | str y =>
    obtain ⟨t, rfl⟩ := ru
    exact PySem.P.repr_of_str ⟨.str _, H, I.tok _, ⟨_, rfl⟩, q⟩ hz
  | lst sq all =>
    obtain rfl : u = _ := ru
    exact repr_of_reads' rd hs (fun z => by rw [hn] at z; cases z) hg (by omega) (fun _ _ e => e) (fun h' t tk k => ⟨.str _, H, I.kept k, ⟨t, rfl⟩, q⟩) hz
  | tup sq all =>
    obtain rfl : u = _ := ru
    exact repr_of_reads' rd hs (fun z => by rw [hn] at z; cases z) hg (by omega) (fun _ _ e => e) (fun h' t tk k => ⟨.str _, H, I.kept k, ⟨t, rfl⟩, q⟩) hz
end
/-- a def's promise where no repr is under way -/
structure FnG (P : Program) (w : World) (K : PySem.W.Frag) (mg : Str → Option Value) (base : Heap) (CX : CXT) (k : Nat) (f : Addr) (fd : FuncData) (ps : List Str) (sp : Sp) : Prop where
  len : ∀ vs H Q E, sp vs H Q E → vs.length = ps.length
  run : ∀ (A : Around) (outer : List Env) (s : Shared) (H : Hp) (args : Args) (us : List Value) (vs : List V) (Q : VK) (E : XK), A.guards = some [] → Room k A → Env0 P w K mg base A outer s H →
    BindsTo s fd args (ps.zip us) → Vals vs us → sp vs H Q E → codeAny (model P w) A (.call (.ref f) args) (CR CX outer P w H s Q E) s
theorem FnG.of {P : Program} {w : World} {K : PySem.W.Frag} {mg : Str → Option Value} {base : Heap} {CX : CXT} {k : Nat} {f : Addr} {fd : FuncData} {ps : List Str} {sp : Sp} (F : FnOk P w K mg base CX k f fd ps sp) : FnG P w K mg base CX k f fd ps sp :=
  ⟨F.len, fun A outer s H args us vs Q E _ => F.run A outer s H args us vs Q E⟩
theorem FnG.mono {P : Program} {w : World} {K : PySem.W.Frag} {mg : Str → Option Value} {base : Heap} {CX : CXT} {j k : Nat} {f : Addr} {fd : FuncData} {ps : List Str} {sp : Sp} (F : FnG P w K mg base CX j f fd ps sp) (h : j ≤ k) : FnG P w K mg base CX k f fd ps sp :=
  ⟨F.len, fun A outer s H args us vs Q E g hr => F.run A outer s H args us vs Q E g (hr.mono h)⟩
section
variable {X : Cx} {CX : CXT} {k : Nat} {f : Addr} {fd : FuncData} {ps : List Str} {sp : Sp} {dvs : List V} {ds : List Value} {E : XK} {x : Str} {p pos : Pos} {e : Expr} {es : List Expr} {t : TA}
theorem pe_callG (F : FnG X.prog X.w X.K X.mg X.base CX k f fd ps sp) (gd : X.A.guards = some []) (hr : Room k X.A) (hg : Gl X x) (hm : X.mg x = some (.ref f)) (hk : PySem.W.keepIn X.K (.ref f) = true) (hb : Binds X.K fd ps ds) (hd : Vals dvs ds) (hx : Passes CX X E)
    (ha : PA X (e :: es) t) (hdb : (x == ("__debug__" : Str)) = false := by decide) (he : starEach (e :: es) X.env = (false, eval e X.env) :: starEach es X.env := by rfl) (hpl : (backTo pos (starEach es X.env)).any (·.1) = false := by rfl) :
    PE X (.Call (.Name x p) (e :: es) [] pos) (tCall sp dvs E t) := by
  constructor
  intro pins s σ H Q I h
  apply wpAny_Call_Name_kw
  apply ld_glob I hg hm _ hdb
  refine PySem.W.callWith_K (h₀ := X.base) I.ok.mod.kin hk (thn (ha.run pos pins s σ H _ I h) ?_) he hpl
  rintro us s1 ⟨vs, H1, I1, r, q⟩
  refine ⟨I1.kIn, ?_⟩
  have rr := r.append hd
  have ll : (us ++ ds).length = ps.length := rr.length.symm.trans (F.len _ _ _ _ q)
  apply wpAny_call
  refine codeAny_mono (F.run X.A X.stack s1 H1 ⟨us, []⟩ (us ++ ds) (vs ++ dvs) Q E gd hr I1.env0 (hb s1 us I1.kIn ll) rr q) ?_
  intro z s2 hz
  match z, hz with
  | .error er, hz => exact hx pins σ H1 s1 er s2 I1 hz
  | .ok (.ret u), hz => exact I1.after hz
  | .ok .next, hz => exact hz.elim
  | .ok .brk, hz => exact hz.elim
  | .ok .cont, hz => exact hz.elim
end

/-- a def by its body, where no repr is under way -/
theorem okG {P : Program} {w : World} {K : PySem.W.Frag} {mg : Str → Option Value} {base : Heap} {x qual : Str} {st : Stmt} {f : Addr} {fd : FuncData} {N ps : List Str} {k : Nat} {sp : Sp} (F : Fun K x qual st f fd) (S : FnScope N ps (defScope st)) (len : ∀ vs H Q E, sp vs H Q E → vs.length = ps.length)
    (hbody : ∀ (cdv : Value) (A : Around) (outer : List Env) (s : Shared) (H : Hp) (vs : List V) (Q : VK) (E : XK), (A.deeper (envOfC qual (defScope st) s.heap.objs.size f cdv)).guards = some [] → Room k (A.deeper (envOfC qual (defScope st) s.heap.objs.size f cdv)) → sp vs H Q E →
      ∃ t, PSs (cxOf CX0 P w K mg base N qual (defScope st) f cdv A outer s H E).nox (defBody st) t ∧ t { nx := fun _ H' => Q .non H', rt := Q } (start N vs) H) : FnG P w K mg base CX0 (k + 1) f fd ps sp := by
  obtain ⟨oc, od, kV, doc, pm, an, cdv, ct, osl, rfl, lk, hcd⟩ := F.ex
  constructor
  · exact len
  intro A outer s H args us vs Q E gd hr e0 hb r hsp
  have keep : ∀ b o, base.get? b = some o → s.heap.get? b = some o := fun b o e => (e0.bs b o e).1
  have kin := e0.mod.kin.keeps keep
  have par : ∀ y ∈ ps.zip us, (defScope st).names.lookup y.1 = some .local ∨ ((defScope st).names.lookup y.1 = some .cell ∧ ((cellsFrom (s.heap.objs.size + 1) (defScope st).names []).lookup y.1).isSome = true) := by
    intro y hy
    have mem : y.1 ∈ ps := (List.of_mem_zip (a := y.1) (b := y.2) hy).1
    cases S.par y.1 mem with
    | inl q => exact Or.inl q
    | inr q => exact Or.inr (And.intro q (PySem.W.cellsFrom_some _ _ _ (Or.inl q)))
  apply codeAny_call_function hr.depth (kin _ _ lk) rfl S.co S.gen rfl (PySem.W.codeRec_of kin hcd)
  apply hb
  apply wpAny_newFunctionEnv_cells S.kind par
  rintro env rfl s1 ic
  refine And.intro ((e0.mod.nolimit.keeps keep).keeps ic.toInCall.keep) (codeAny_func ?_)
  obtain ⟨t, ht, hq⟩ := hbody cdv A outer s H vs Q E gd (hr.deeper _) hsp
  have I0 := inv_start (CX := CX0) (qual := qual) (f := f) (cd := cdv) (E := E) S hr.hd e0 (len _ _ _ _ hsp) r ic
  refine wpAny_mono (ht.nox.run [] s1 _ H _ I0 hq) ?_ (fun _ _ z => z)
  intro fl s' hs
  match fl, hs with
  | .ret u, ⟨v, σ', H', J, rv, q⟩ => exact ⟨v, H', J.os, J.bare, J.base, J.hok, rv, q⟩
  | .next, ⟨σ', H', J, q⟩ => exact ⟨V.non, H', J.os, J.bare, J.base, J.hok, rfl, q⟩
  | .brk, ⟨_, _, _, q⟩ => exact q.elim
  | .cont, ⟨_, _, _, q⟩ => exact q.elim

section
variable {P : Program} {w : World} {K : PySem.W.Frag} {mg mb : Str → Option Value} {k : Nat} {fa a : Addr} {tb : List (Addr × Addr)} {fd : FuncData} {x : Str} {sp : Sp} {s1 : Shared} {vs : List Value} {ns : List Int}
/-- what is tracked when the law begins: its script s (unless the top owns it) and the tables -/
structure Begin (K : PySem.W.Frag) (h : Heap) (tabs : List Addr) (a : Addr) (vs : List Value) (ns : List Int) (H : Hp) : Prop where
  tabAt : ∀ b ∈ tabs, H b = some (.tbl #[])
  tabIs : ∀ b ∈ tabs, h.get? b = some { cls := .none, data := .fields #[] }
  tabK : ∀ b ∈ tabs, K.lookup b = none
  seq : SqL K H a (ns.map V.int)
  other : ∀ b, b ∉ tabs → b ≠ a → H b = none
  script : a ∉ tabs → H a = none ∨ (K.lookup a = none ∧ H a = some (.frz { cls := .type "list", data := .seq vs.toArray } (.lst (ns.map V.int))))
theorem Begin.kinds {H : Hp} {tabs : List Addr} {h : Heap} (B : Begin K h tabs a vs ns H) (b : Addr) : H b = none ∨ b ∈ tabs ∨ (b = a ∧ K.lookup a = none ∧ H b = some (.frz { cls := .type "list", data := .seq vs.toArray } (.lst (ns.map V.int)))) := by
  by_cases m : b ∈ tabs
  · exact .inr (.inl m)
  · by_cases e : b = a
    · subst e
      rcases B.script m with z | ⟨z1, z2⟩
      · exact .inl z
      · exact .inr (.inr ⟨rfl, z1, z2⟩)
    · exact .inl (B.other b m e)
/-- an object that is neither a table nor the script is not tracked -/
theorem Begin.out {H : Hp} {tabs : List Addr} {h : Heap} (B : Begin K h tabs a vs ns H) (ha : h.get? a = some { cls := .type "list", data := .seq vs.toArray }) {b : Addr} {o : Obj} (e : h.get? b = some o)
    (n1 : ∀ us n, o.data ≠ .seq us n) (n2 : o.data ≠ .fields #[]) : H b = none := by
  rcases B.kinds b with z | z | ⟨z, _⟩
  · exact z
  · have q := e.symm.trans (B.tabIs b z)
    cases q
    exact absurd rfl n2
  · subst z
    have q := e.symm.trans ha
    cases q
    exact absurd rfl (n1 _ _)
theorem Begin.run {H : Hp} (B : Begin K s1.heap (tb.map (·.2)) a vs ns H) (hok : HOk P w H s1.heap) (KX : K.In s1.heap) (hns : s1.heap.Ns mainGlobals mg) (hb : s1.heap.Ns builtinsNs mb) (hbb : ∀ x : Str, x ≠ "__name__" → mb x = bootBuiltins x)
    (hlim : s1.heap.NoLimit) (hg : s1.gens = #[]) (cds : ∀ p ∈ tb, PySem.W.CodeHd s1.heap p.1 p.2)
    (hbm : ∃ (bm : Addr) (ob : Obj), mg "__builtins__" = some (.ref bm) ∧ bm ≠ builtinsNs ∧ s1.heap.get? bm = some ob ∧ ob.cls = .type "module" ∧ ob.dict = some builtinsNs ∧ ob.data = .plain)
    (ha : s1.heap.get? a = some { cls := .type "list", data := .seq vs.toArray }) (hr : Room k callerA)
    (F : ∀ base : Heap, K.In base → base.Ns mainGlobals mg → (∀ p ∈ tb, GxR.TabB base mg p.1 p.2) → FnG P w K mg base CX0 k fa fd [x] sp)
    (bind : ∀ (s : Shared) (u : Value), BindsTo s fd ⟨[u], []⟩ [(x, u)]) (want : sp [.ref a] H (fun v _ => v = .bl true) fun _ _ _ => False) :
    codeAny (model P w) callerA (.call (.ref fa) ⟨[.ref a], []⟩) (fun r s' => r = .ok (.ret (.bool true)) ∧ OldK s1.heap s'.heap ∧ s'.os = s1.os ∧ AllBare s'.gens) s1 := by
  have out := fun {b : Addr} {o : Obj} => B.out (b := b) (o := o) ha
  have low : ∀ {b : Addr} {o : Obj}, s1.heap.get? b = some o → H b = none → (hidT s1.heap H).get? b = some o := fun e n => hidT_get e n
  have lowNs : ∀ {b : Addr} {m : Str → Option Value}, s1.heap.Ns b m → (hidT s1.heap H).Ns b m := by
    rintro b m ⟨o, es, ep, e, d, r⟩
    refine ⟨o, es, ep, low e (out e ?_ ?_), d, r⟩
    · intro us n z
      cases d.symm.trans z
    · intro z
      cases d.symm.trans z
  have lowK : K.In (hidT s1.heap H) := by
    intro b o e
    refine low (KX b o e) ?_
    rcases B.kinds b with z | z | ⟨z1, z2, _⟩
    · exact z
    · cases (B.tabK b z).symm.trans e
    · subst z1
      cases z2.symm.trans e
  have lim : (hidT s1.heap H).NoLimit := by
    obtain ⟨mc, q1, q2⟩ := hlim
    exact ⟨mc, lowNs q1, q2⟩
  have tabs : ∀ p ∈ tb, GxR.TabB (hidT s1.heap H) mg p.1 p.2 := by
    intro p hp
    have isT := B.tabIs p.2 (List.mem_map.mpr ⟨p, hp, rfl⟩)
    constructor
    · obtain ⟨o, us, file, tf, flags, tg, inF, text, tt, e1, r1, r2, r3, rest⟩ := cds p hp
      refine ⟨o, us, file, tf, flags, tg, inF, text, tt, low e1 (out e1 ?_ ?_), r1, r2, r3, rest⟩
      · intro us n z
        cases r2.symm.trans z
      · intro z
        have z' := r2.symm.trans z
        cases z'
        simp at r3
    · obtain ⟨bm, ob, b1, b2, b3, b4, b5, b6⟩ := hbm
      refine ⟨bm, ob, b1, b2, ?_, ?_, low b3 (out b3 ?_ ?_), b4, b5, b6⟩
      · intro q
        obtain ⟨o, es, ep, e, hd, _⟩ := hns
        rw [← q, b3] at e
        cases e
        cases b6.symm.trans hd
      · intro q
        rw [q, isT] at b3
        cases b3
        cases b6
      · intro us n z
        cases b6.symm.trans z
      · intro z
        cases b6.symm.trans z
    · intro z
      obtain ⟨o, es, ep, e, hd, _⟩ := hns
      rw [z, isT] at e
      cases e
      cases hd
  have md : L2.Mod K mg (hidT s1.heap H) := ⟨lowK, lowNs hns, ⟨mb, lowNs hb, hbb⟩, lim⟩
  have env : Env0 P w K mg (hidT s1.heap H) callerA [] s1 H := by
    refine ⟨rfl, md, fun b o e => of_hidT e, Nat.le_of_eq (hidT_size _ _), trivial, ?_, hok, .of_eq hg⟩
    intro b z
    cases z
  have go := (F _ lowK (lowNs hns) tabs).run callerA [] s1 H ⟨[.ref a], []⟩ [.ref a] [.ref a] _ _ rfl hr env (bind s1 (.ref a)) (.cons rfl .nil) want
  refine codeAny_mono go ?_
  intro r s' h
  match r, h with
  | .error e, h => exact False.elim h
  | .ok .next, h => exact h.elim
  | .ok .brk, h => exact h.elim
  | .ok .cont, h => exact h.elim
  | .ok (.ret u), ⟨v, H', os, bare, un, hok', rel, q⟩ =>
    cases q
    cases rel
    have stay : ∀ b o, b ∉ tb.map (·.2) → s1.heap.get? b = some o → s'.heap.get? b = some o := by
      intro b o nb e
      rcases B.kinds b with z | z | ⟨z1, _, z⟩
      · exact un.keep b o e z (by intro m; cases m) (by intro m; cases m)
      · exact absurd z nb
      · have e1 := (hok b _ z).1
        have e2 := (hok' b _ (un.frzs b _ _ z)).1
        rw [e] at e1
        cases e1
        exact e2
    have more : ∀ p ∈ tb, ∃ us : Array Value, s'.heap.get? p.2 = some { cls := .none, data := .fields us } := by
      intro p hp
      obtain ⟨us, z⟩ := un.tbls p.2 #[] (B.tabAt _ (List.mem_map.mpr ⟨p, hp, rfl⟩))
      exact ⟨_, hok' p.2 _ z⟩
    refine ⟨rfl, ⟨?_, ?_⟩, os, bare⟩
    · intro b o e
      by_cases m : b ∈ tb.map (·.2)
      · have isT := B.tabIs b m
        obtain ⟨p, hp, rfl⟩ := List.mem_map.mp m
        obtain ⟨us, hu⟩ := more p hp
        rw [isT] at e
        cases e
        refine .inr (.inl ⟨((cds p hp).tab isT).isCodeTable, rfl, #[], us, rfl, ?_⟩)
        rw [Array.empty_append]
        exact hu
      · exact .inl (stay b o m e)
    · intro b o e
      by_cases m : b ∈ tb.map (·.2)
      · obtain ⟨p, hp, rfl⟩ := List.mem_map.mp m
        obtain ⟨us, hu⟩ := more p hp
        exact ⟨_, hu⟩
      · exact ⟨o, stay b o m e⟩
/-- such a heap there is -/
theorem begin_ex (tabs : List Addr) (hT : ∀ b ∈ tabs, s1.heap.get? b = some { cls := .none, data := .fields #[] }) (nT : ∀ b ∈ tabs, K.lookup b = none) (KX : K.In s1.heap)
    (ha : s1.heap.get? a = some { cls := .type "list", data := .seq vs.toArray }) (hi : IntsAre vs ns) (hl : ns.length ≤ sizeLine) : ∃ H, Begin K s1.heap tabs a vs ns H ∧ HOk P w H s1.heap := by
  have na : a ∉ tabs := by
    intro m
    cases (hT a m).symm.trans ha
  by_cases hk : K.lookup a = none
  · let H : Hp := fun b => if b ∈ tabs then some (.tbl #[]) else if b = a then some (.frz { cls := .type "list", data := .seq vs.toArray } (.lst (ns.map V.int))) else none
    have atT : ∀ b ∈ tabs, H b = some (.tbl #[]) := fun b m => if_pos m
    have atA : H a = some (.frz { cls := .type "list", data := .seq vs.toArray } (.lst (ns.map V.int))) := (if_neg na).trans (if_pos rfl)
    have atN : ∀ b, b ∉ tabs → b ≠ a → H b = none := fun b m e => (if_neg m).trans (if_neg e)
    refine ⟨H, ⟨atT, hT, nT, .inl (.inr ⟨_, atA⟩), atN, fun _ => .inr ⟨hk, atA⟩⟩, ?_⟩
    intro b u z
    by_cases m : b ∈ tabs
    · cases (atT b m).symm.trans z
      exact hT b m
    · by_cases e : b = a
      · subst e
        cases atA.symm.trans z
        refine ⟨ha, ?_, vs, _, vals_ints hi, ha⟩
        rw [List.length_map]
        exact hl
      · cases (atN b m e).symm.trans z
  · obtain ⟨o, ho⟩ := Option.ne_none_iff_exists'.mp hk
    have e := KX a o ho
    rw [ha] at e
    cases e
    let H : Hp := fun b => if b ∈ tabs then some (.tbl #[]) else none
    have atT : ∀ b ∈ tabs, H b = some (.tbl #[]) := fun b m => if_pos m
    have atN : ∀ b, b ∉ tabs → H b = none := fun b m => if_neg m
    refine ⟨H, ⟨atT, hT, nT, .inr ⟨_, vs.toArray, _, ho, rfl, rfl, rfl, ?_, ?_⟩, fun b m _ => atN b m, fun _ => .inl (atN a na)⟩, ?_⟩
    · rw [List.size_toArray, hi.length]
      exact hl
    · simpa using vals_ints hi
    · intro b u z
      by_cases m : b ∈ tabs
      · cases (atT b m).symm.trans z
        exact hT b m
      · cases (atN b m).symm.trans z
end
/-- all that the end of a law asks of its promise -/
def LawG (l : PySem.W.OpenLaw) (w : World) (K : PySem.W.Frag) (k n : Nat) (x : Str) (mg : Str → Option Value) (fa : Addr) (h : Heap) : Prop :=
  ∃ (fd : FuncData) (tb : List (Addr × Addr)) (sp : Sp), (∀ p ∈ tb, h.get? p.2 = some { cls := .none, data := .fields #[] }) ∧ (∀ p ∈ tb, K.lookup p.2 = none) ∧ (∀ p ∈ tb, PySem.W.CodeHd h p.1 p.2) ∧
    (∀ (s : Shared) (u : Value), BindsTo s fd ⟨[u], []⟩ [(x, u)]) ∧
    (∀ (H : Hp) (a : Addr) (ns : List Int), ns.length ≤ n → (∀ p ∈ tb, H p.2 = some (.tbl #[])) → SqL K H a (ns.map V.int) → sp [.ref a] H (fun v _ => v = .bl true) fun _ _ _ => False) ∧
    ∀ base : Heap, K.In base → base.Ns mainGlobals mg → (∀ p ∈ tb, GxR.TabB base mg p.1 p.2) → FnG l.prog w K mg base CX0 k fa fd [x] sp
theorem walkG {l : PySem.W.OpenLaw} {n k : Nat} {q : Program} {loose : List Str} {XP : (Str → Option Value) → Heap → Prop} {YP : World → Heap → Prop} {d : DefRec} {K : Params → PySem.W.Frag} {x : Str}
    (hn : l.most = some n) (hn2 : n ≤ sizeLine) (hdf : d.params.defaults = []) (hr : Room k callerA) (hY : ∀ (w : World) (h : Heap), YP w h → (K w.params).In h)
    (F : ∀ (w : World) (mg : Str → Option Value) (fa : Addr) (h : Heap), YP w h → (K w.params).In h → h.Ns mainGlobals mg → mg d.name = some (.ref fa) → LawG l w (K w.params) k n x mg fa h) :
    PySem.W.WalkO q loose XP YP l.row.toRowW d [] (fun f vs => PySem.call f vs) := by
  apply Att.attach_call hn hdf
  intro w s0 s1 mg mb fa o pm cd doc a vs ns G Y ho hd hcd hmg hobj hints hlen hg
  have KX := hY w _ Y
  obtain ⟨fd, tb, sp, hT, nT, C, hb, hsp, hF⟩ := F w mg fa _ Y KX G.T.g hmg
  have hT' : ∀ b ∈ tb.map (·.2), s1.heap.get? b = some { cls := .none, data := .fields #[] } := by
    intro b m
    obtain ⟨p, hp, rfl⟩ := List.mem_map.mp m
    exact hT p hp
  have nT' : ∀ b ∈ tb.map (·.2), (K w.params).lookup b = none := by
    intro b m
    obtain ⟨p, hp, rfl⟩ := List.mem_map.mp m
    exact nT p hp
  obtain ⟨H, B, hok⟩ := begin_ex (P := l.prog) (w := w) (tb.map (·.2)) hT' nT' KX hobj hints (Nat.le_trans hlen hn2)
  exact B.run hok KX G.T.g G.T.b G.T.builtins G.T.nolimit hg C G.T.bmain hobj hr hF hb (hsp H a ns hlen (fun p hp => B.tabAt _ (List.mem_map.mpr ⟨p, hp, rfl⟩)) B.seq)
/-- a if t else b, both of the kind D: what follows is shown once -/
theorem ifx {b : Bool} {ta : TE} {Q : VK} {σ : L2.St} {H : Hp} {v : V} (D : V → Prop) (hA : b = true → (∀ v, D v → Q v H) → ta σ H Q) (hv : D v) (all : ∀ v, D v → Q v H) : if b = true then ta σ H Q else tC v σ H Q := by
  by_cases h : b = true
  · rw [if_pos h]
    exact hA h all
  · rw [if_neg h]
    exact all v hv
theorem at_of {α : Type} {xs : List α} {i : Int} (h0 : 0 ≤ i) (h1 : i < xs.length) : ∃ v, xs[i.toNat]? = some v ∧ atI xs i = some v := by
  have hj : i.toNat < xs.length := by omega
  refine ⟨xs[i.toNat], List.getElem?_eq_getElem hj, ?_⟩
  have e := atI_nat (List.getElem?_eq_getElem hj)
  rwa [Int.toNat_of_nonneg h0] at e
theorem b01 (b : Bool) : -(2 ^ 64) < (if b = true then (1 : Int) else 0) ∧ (if b = true then (1 : Int) else 0) < 2 ^ 64 := by cases b <;> decide
theorem b01_mul (b : Bool) {x B : Int} (h0 : 0 ≤ x) (h1 : x < B) : 0 ≤ x * (if b = true then (1 : Int) else 0) ∧ x * (if b = true then (1 : Int) else 0) < B := by
  cases b
  · rw [if_neg Bool.false_ne_true, Int.mul_zero]
    omega
  · rw [if_pos rfl, Int.mul_one]
    omega
/-- a comprehension without a test -/
theorem lc_yes {σ : L2.St} {H : Hp} {A B : Hp → Prop} (h : A H) : tYes σ H fun b H3 => if b = true then A H3 else B H3 := by
  show (if true = true then A H else B H)
  rw [if_pos rfl]
  exact h
theorem same_put {H H2 : Hp} {l : Addr} {o : HO} (u : Same H H2) (e : H l = none) : Same H (L2.upd H2 l o) := fun b x eb => by
  rw [upd_ne (ne_of_none eb e)]
  exact u b x eb
theorem same_upto {a : Addr} {H H1 H2 : Hp} (s : Same H H1) (u : Upto a H1 H2) (e : H a = none) : Same H H2 := fun b x eb => u b x (ne_of_none eb e) (s b x eb)
end Cu

namespace Cu
open PySem PySem.Spec PyProof.Rows L2
/-! ### texts -/
abbrev tl (x : Str) : List Nat := x.cps.toList
def mkS (l : List Nat) : Str := ⟨l.toArray⟩
theorem tl_mk (l : List Nat) : tl (mkS l) = l := List.toList_toArray
theorem tl_len (x : Str) : (tl x).length = x.length := Array.length_toList
theorem ext_t {x y : Str} (h : tl x = tl y) : x = y := PyProof.Rows.ext_toList h
theorem tl_app (x y : Str) : tl (x ++ y) = tl x ++ tl y := TL.tl_append x y
theorem cut_both (z : Str) (i j : Nat) : tl (cutS z (some (i : Int)) (some (j : Int))) = ((tl z).drop i).take (j - i) := by
  show ((z.cps.toList.drop (HT.sIx z.length 0 (some (i : Int)))).take (HT.sIx z.length z.length (some (j : Int)) - HT.sIx z.length 0 (some (i : Int)))).toArray.toList = (z.cps.toList.drop i).take (j - i)
  rw [HT.sIx_nat, HT.sIx_nat, List.toList_toArray]
  have hl : z.cps.toList.length = z.length := Array.length_toList
  by_cases h : i ≤ z.length
  · rw [Nat.min_eq_left h]
    by_cases h2 : j ≤ z.length
    · rw [Nat.min_eq_left h2]
    · rw [Nat.min_eq_right (by omega), List.take_of_length_le (by rw [List.length_drop]; omega), List.take_of_length_le (by rw [List.length_drop]; omega)]
  · rw [Nat.min_eq_right (show z.length ≤ i by omega), List.drop_eq_nil_of_le (show z.cps.toList.length ≤ z.length by omega), List.drop_eq_nil_of_le (show z.cps.toList.length ≤ i by omega), List.take_nil, List.take_nil]
theorem cut_left (z : Str) (j : Nat) : tl (cutS z none (some (j : Int))) = (tl z).take j := by
  show ((z.cps.toList.drop (HT.sIx z.length 0 none)).take (HT.sIx z.length z.length (some (j : Int)) - HT.sIx z.length 0 none)).toArray.toList = z.cps.toList.take j
  rw [HT.sIx_nat, HT.sIx_none, List.toList_toArray, List.drop_zero, Nat.sub_zero]
  have hl : z.cps.toList.length = z.length := Array.length_toList
  by_cases h2 : j ≤ z.length
  · rw [Nat.min_eq_left h2]
  · rw [Nat.min_eq_right (by omega), List.take_of_length_le (by omega), List.take_of_length_le (by omega)]
theorem cut_right (z : Str) (i : Nat) : tl (cutS z (some (i : Int)) none) = (tl z).drop i := by
  show ((z.cps.toList.drop (HT.sIx z.length 0 (some (i : Int)))).take (HT.sIx z.length z.length none - HT.sIx z.length 0 (some (i : Int)))).toArray.toList = z.cps.toList.drop i
  rw [HT.sIx_nat, HT.sIx_none, List.toList_toArray]
  have hl : z.cps.toList.length = z.length := Array.length_toList
  by_cases h : i ≤ z.length
  · rw [Nat.min_eq_left h, List.take_of_length_le (by rw [List.length_drop]; omega)]
  · rw [Nat.min_eq_right (by omega), List.drop_eq_nil_of_le (by omega), List.drop_eq_nil_of_le (by omega), List.take_nil]
/-- all signs are ASCII -/
def Asc (z : Str) : Prop := ∀ c ∈ tl z, c < 128
theorem asc_of {x : Str} {l : List Nat} (h : ∀ c ∈ tl x, c ∈ l) (k : ∀ c ∈ l, c < 128) : Asc x := fun c m => k c (h c m)
theorem joinL_nil : ∀ ys : List (List Nat), TL.joinL [] ys = ys.flatten
  | [] => rfl
  | [p] => by simp [TL.joinL]
  | p :: q :: r => by
    show p ++ ([] ++ TL.joinL [] (q :: r)) = _
    rw [joinL_nil (q :: r), List.nil_append, List.flatten_cons (l := p)]
/-- ''.join(ys) -/
theorem tl_join0 (ys : List Str) : tl (Txt.join (Str.ofString "") ys) = (ys.map tl).flatten := by
  have e := TL.tl_join (Str.ofString "") ys
  rw [← TL.join_eq] at e
  rw [show tl (Txt.join (Str.ofString "") ys) = TL.joinL (TL.tl (Str.ofString "")) (ys.map TL.tl) from e]
  exact joinL_nil _
/-! ### data that can be shown -/
structure Good (n k : Nat) (d : PyData) : Prop where
  len : d.shown.length ≤ n
  dep : d.depth ≤ k
  show_ : d.showable = true
  dict : d.hasDict = false
theorem Good.mono {n k n' k' : Nat} {d : PyData} (g : Good n k d) (hn : n ≤ n') (hk : k ≤ k') : Good n' k' d := ⟨Nat.le_trans g.len hn, Nat.le_trans g.dep hk, g.show_, g.dict⟩
theorem good_none {n k : Nat} (h : 4 ≤ n) : Good n k .none := ⟨Nat.le_trans (by decide +kernel) h, by simp [PyData.depth], by simp [PyData.showable], by simp [PyData.hasDict]⟩
theorem good_bool {n k : Nat} (b : Bool) (h : 5 ≤ n) : Good n k (.bool b) := ⟨Nat.le_trans (by cases b <;> decide +kernel) h, by simp [PyData.depth], by simp [PyData.showable], by simp [PyData.hasDict]⟩
theorem good_int {n k : Nat} {i : Int} (h : i.natAbs.log2 < 1920) (hn : 2000 ≤ n) : Good n k (.int i) := by
  refine ⟨?_, by simp [PyData.depth], by simp [PyData.showable, h], by simp [PyData.hasDict]⟩
  have e := int_text_length_le (k := 1920) (by decide) h
  simp only [PyData.shown]
  rw [PySem.ofString_length]
  omega
theorem good_str {n k : Nat} {z : Str} (h : Asc z) (hn : 10 * z.length + 2 ≤ n) : Good n k (.str z) := by
  refine ⟨?_, by simp [PyData.depth], by simp [PyData.showable], by simp [PyData.hasDict]⟩
  simp only [PyData.shown]
  exact Nat.le_trans (StrLaws.reprText_len z fun c m => Nat.lt_trans (h c m) (by decide)) hn
theorem piled_le {n : Nat} : ∀ ds : List PyData, (∀ d ∈ ds, d.shown.length ≤ n) → piled (PyData.shownAll ds) ≤ (n + 2) * ds.length
  | [], _ => by simp [PyData.shownAll, piled]
  | d :: r, h => by
    have h1 := h d List.mem_cons_self
    have h2 := piled_le r fun z m => h z (List.mem_cons_of_mem _ m)
    simp only [PyData.shownAll]
    rw [piled_cons, List.length_cons, Nat.mul_succ]
    omega
theorem list_text (ts : List Str) : (listText ts).length ≤ piled ts + 2 := by
  cases ts with
  | nil => decide +kernel
  | cons t r =>
    have e := textFrom_length_pos r 1 (("[" : Str) ++ (if (0 : Nat) > 0 then ", " else "" : String) ++ t) (by decide)
    have e2 : (("[" : Str) ++ (if (0 : Nat) > 0 then ", " else "" : String) ++ t).length = 1 + t.length := by
      rw [strLen_append, strLen_append]
      rfl
    show (textFrom 1 _ r ++ Str.ofString "]").length ≤ _
    rw [strLen_append, e, e2, piled_cons]
    have e3 : (Str.ofString "]").length = 1 := rfl
    omega
theorem all_of {n k : Nat} : ∀ ds : List PyData, (∀ d ∈ ds, Good n k d) → PyData.depthAll ds ≤ k ∧ PyData.showableAll ds = true ∧ PyData.hasDictAll ds = false
  | [], _ => by simp [PyData.depthAll, PyData.showableAll, PyData.hasDictAll]
  | d :: r, h => by
    obtain ⟨h1, h2, h3⟩ := all_of r fun z m => h z (List.mem_cons_of_mem _ m)
    have g := h d List.mem_cons_self
    have g2 := g.dep
    simp only [PyData.depthAll, PyData.showableAll, PyData.hasDictAll, g.show_, g.dict, h2, h3, Bool.and_self, Bool.or_self, and_self, and_true]
    omega
theorem good_list {n k m : Nat} {ds : List PyData} (h : ∀ d ∈ ds, Good n k d) (hm : (n + 2) * ds.length + 2 ≤ m) : Good m (k + 1) (.list ds) := by
  obtain ⟨h1, h2, h3⟩ := all_of ds h
  have p := piled_le ds fun d z => (h d z).len
  have t := list_text (PyData.shownAll ds)
  refine ⟨?_, ?_, ?_, ?_⟩
  · simp only [PyData.shown]
    omega
  · simp only [PyData.depth]
    omega
  · simp only [PyData.showable]
    exact h2
  · simp only [PyData.hasDict]
    exact h3
theorem good_tup {n k m : Nat} {ds : List PyData} (h : ∀ d ∈ ds, Good n k d) (hm : (n + 2) * ds.length + 2 ≤ m) : Good m (k + 1) (.tuple ds) := by
  obtain ⟨h1, h2, h3⟩ := all_of ds h
  have p := piled_le ds fun d z => (h d z).len
  have t := fmt_text (PyData.shownAll ds)
  refine ⟨?_, ?_, ?_, ?_⟩
  · simp only [PyData.shown]
    omega
  · simp only [PyData.depth]
    omega
  · simp only [PyData.showable]
    exact h2
  · simp only [PyData.hasDict]
    exact h3
theorem Good.shw {n k : Nat} {d : PyData} (g : Good n k d) (hn : n ≤ 16000000 := by decide) (hk : k ≤ 60 := by decide) : Shw d := ⟨g.show_, g.dict, Nat.le_trans g.dep hk, Nat.le_trans (Nat.le_trans g.len hn) (by decide)⟩
end Cu

namespace Cu
open PySem PySem.Spec PyProof.Rows L2
/-! ### the text -/
def topS (i : Nat) : Stmt := PySem.Challenge.pw_crossundo_k05_inverse_edits.main.body.getD i (.Pass ⟨0, 0, 0, 0⟩)
/-- a def that stands, is named, and binds its arguments -/
structure Df (K : PySem.W.Frag) (mg : Str → Option Value) (nm : Str) (st : Stmt) (ps : List Str) (f : Addr) (fd : FuncData) : Prop where
  F : Fun K nm nm st f fd
  g : mg nm = some (.ref f)
  b : Binds K fd ps []
/-- the builtins' names are free -/
structure Bl (mg : Str → Option Value) : Prop where
  len : mg "len" = none
  abs : mg "abs" = none
  int : mg "int" = none
  range : mg "range" = none
  repr : mg "repr" = none
  max : mg "max" = none
  min : mg "min" = none
  all : mg "all" = none
abbrev sHand : Stmt := topS 8
abbrev sTake : Stmt := topS 9
abbrev sOf : Stmt := topS 10
theorem scH : FnScope ["_law_script", "_law_k", "_law_cell", "_law_great"] ["_law_script", "_law_k"] (defScope sHand) := ⟨rfl, rfl, rfl, by decide +kernel, rfl, by decide +kernel, by decide +kernel⟩
theorem scT : FnScope ["_law_hand_here", "_law_many", "_law_digit", "_law_prime", "_law_drawn"] ["_law_hand_here", "_law_many"] (defScope sTake) := ⟨rfl, rfl, rfl, by decide +kernel, rfl, by decide +kernel, by decide +kernel⟩
theorem scO : FnScope ["_law_hand_here", "_law_some"] ["_law_hand_here", "_law_some"] (defScope sOf) := ⟨rfl, rfl, rfl, by decide +kernel, rfl, by decide +kernel, by decide +kernel⟩
section
variable {P : Program} {w : World} {K : PySem.W.Frag} {mg : Str → Option Value} {base : Heap}
/-! ### _law_hand -/
def spHand (K : PySem.W.Frag) : Sp := fun vs H Q _ => ∃ (a : Addr) (k : Int) (ns : List Int), vs = [.ref a, .int k] ∧ SqL K H a (ns.map V.int) ∧ 0 ≤ k ∧ k < 1000 ∧ ∀ H' p, Same H H' → H p = none → Hand H' p 0 → Q (.ref p) H'
theorem big_pos : (0 : Int) < 10 ^ (60 : Int).toNat * 10 ^ (60 : Int).toNat * 10 ^ (60 : Int).toNat := by decide +kernel
theorem big_lt : (10 : Int) ^ (60 : Int).toNat * 10 ^ (60 : Int).toNat * 10 ^ (60 : Int).toNat < 2 ^ 600 := by decide +kernel
theorem ok_hand {f : Addr} {fd : FuncData} {k : Nat} (F : Fun K "_law_hand" "_law_hand" sHand f fd) (T : Bl mg) : FnOk P w K mg base CX0 (k + 1) f fd ["_law_script", "_law_k"] (spHand K) := by
  refine F.ok scH (fun vs H Q E h => ?_) (fun cdv A outer s H vs Q E hr h => ?_)
  · obtain ⟨a, k, ns, rfl, _⟩ := h
    rfl
  · obtain ⟨a, k, ns, rfl, hS, hk0, hk1, q⟩ := h
    refine ⟨_, (pss_cons (ps_set (i := 2) scH.nd rfl (.inl rfl) (pe_ifExp (pt_cmpR op_lt (pv 1) (pe_callB call_len_seq (by rfl) T.len PySem.boot_len (pa_cons (pv 0) pa_nil)) (nomark _)) (pe_ix ix_list (pv 0) (pv 1) (fun _ _ => rfl)) pe_int))
  (pss_cons (ps_set (i := 3) scH.nd rfl (.inl rfl) (pe_op op_mul (pe_op op_mod (pe_callB call_abs (by rfl) T.abs (by decide +kernel) (pa_cons (pv 2) pa_nil)) (pe_op op_mulW (pe_op op_mulW (pe_op op_pow pe_int pe_int) (pe_op op_pow pe_int pe_int)) (pe_op op_pow pe_int pe_int))) (pe_callTy call_int1 (by rfl) T.int (by decide +kernel) (pa_cons (pe_cmpR op_ge (pe_callB call_abs (by rfl) T.abs (by decide +kernel) (pa_cons (pv 2) pa_nil)) (pe_op op_pow pe_int pe_int) (nomark _)) pa_nil))))
  (pss_one (ps_ret (pe_lst (pa_cons (pv 3) (pa_cons (pe_op op_mod (pe_op op_mul (pe_op op_add (pe_op op_add (pe_op op_mod (pv 2) pe_int) (pe_op op_mul pe_int (pv 1))) pe_int) pe_int) pe_int) (pa_cons pe_int pa_nil)))))))), ?_⟩
    refine ⟨.int k, rfl, .ref a, rfl, a, _, rfl, .inl hS, _, _, rfl, rfl, _, rfl, ?_⟩
    refine ifx (fun v => ∃ c : Int, v = .int c) (fun hb all => ?_) ⟨0, rfl⟩ ?_
    · have hb' : k < ((ns.map V.int).length : Int) := of_decide_eq_true hb
      obtain ⟨v, e1, e2⟩ := at_of hk0 hb'
      refine ⟨.ref a, rfl, .int k, rfl, a, _, k, v, rfl, rfl, hS, e2, all v ?_⟩
      rw [List.getElem?_map] at e1
      obtain ⟨z, _, rfl⟩ := Option.map_eq_some_iff.mp e1
      exact ⟨z, rfl⟩
    · rintro v ⟨c, rfl⟩
      refine ⟨.int c, rfl, c, rfl, 10, 60, rfl, rfl, ⟨by decide, by decide, by decide⟩, 10, 60, rfl, rfl, ⟨by decide, by decide, by decide⟩, _, _, rfl, rfl, wide_mul (a := 200) (b := 200) (by decide +kernel) (by decide +kernel) (by decide) (by decide) (by decide),
        10, 60, rfl, rfl, ⟨by decide, by decide, by decide⟩, _, _, rfl, rfl, wide_mul (a := 400) (b := 200) (by decide +kernel) (by decide +kernel) (by decide) (by decide) (by decide), _, _, rfl, rfl, big_pos, ?_⟩
      refine ⟨.int c, rfl, c, rfl, 10, 18, rfl, rfl, ⟨by decide, by decide, by decide⟩, _, _, rfl, rfl, .inr ⟨_, rfl, _, _, rfl, rfl, .inr ?_, ?_⟩⟩
      · exact b01 _
      · have m0 : ∀ z : Int, 0 ≤ z % (10 ^ (60 : Int).toNat * 10 ^ (60 : Int).toNat * 10 ^ (60 : Int).toNat) := fun z => Int.emod_nonneg z (Int.ne_of_gt big_pos)
        have m1 : ∀ z : Int, z % (10 ^ (60 : Int).toNat * 10 ^ (60 : Int).toNat * 10 ^ (60 : Int).toNat) < 2 ^ 600 := fun z => Int.lt_trans (Int.emod_lt_of_pos z big_pos) big_lt
        have n0 : 0 ≤ c % 2147483629 := Int.emod_nonneg c (by decide)
        have n1 : c % 2147483629 < 2147483629 := Int.emod_lt_of_pos c (by decide)
        refine ⟨_, rfl, .int c, rfl, c, 2147483629, rfl, rfl, (show (0 : Int) < 2147483629 by decide), .int k, rfl, 7919, k, rfl, rfl, .inl ⟨by decide, by decide⟩, _, _, rfl, rfl, _, 13, rfl, rfl, _, 48271, rfl, rfl, .inr ⟨by decide, by decide⟩, _, 2147483647, rfl, rfl,
          (show (0 : Int) < 2147483647 by decide), ?_, fun p np => q _ p (same_upd np) np ⟨_, _, 0, upd_same, (b01_mul _ (m0 _) (m1 _)).1, (b01_mul _ (m0 _) (m1 _)).2, Int.emod_nonneg _ (by decide), Int.emod_lt_of_pos _ (by decide), by decide, by decide⟩⟩
        show 3 ≤ sizeLine
        decide
/-! ### _law_take -/
def spTake : Sp := fun vs H Q _ => ∃ (a : Addr) (m : Int) (n : Nat), vs = [.ref a, .int m] ∧ Hand H a n ∧ n < 2 ^ 40 ∧ 0 < m ∧ m < 1073741824 ∧ ∀ H' d, Upto a H H' → Hand H' a (n + 1) → 0 ≤ d → d < m → Q (.int d) H'
theorem prime_of {r : Int} (h0 : 0 ≤ r) (h1 : r < 5) : ∃ p : Int, atI [V.int 2147483647, .int 2147483629, .int 2147483587, .int 2147483579, .int 2147483563] r = some (.int p) ∧ 0 < p := by
  obtain rfl | rfl | rfl | rfl | rfl : r = 0 ∨ r = 1 ∨ r = 2 ∨ r = 3 ∨ r = 4 := by omega
  · exact ⟨_, rfl, by decide⟩
  · exact ⟨_, rfl, by decide⟩
  · exact ⟨_, rfl, by decide⟩
  · exact ⟨_, rfl, by decide⟩
  · exact ⟨_, rfl, by decide⟩
theorem ok_take {f : Addr} {fd : FuncData} {k : Nat} (F : Fun K "_law_take" "_law_take" sTake f fd) (T : Bl mg) : FnOk P w K mg base CX0 (k + 1) f fd ["_law_hand_here", "_law_many"] spTake := by
  refine F.ok scT (fun vs H Q E h => ?_) (fun cdv A outer s H vs Q E hr h => ?_)
  · obtain ⟨a, m, n, rfl, _⟩ := h
    rfl
  · obtain ⟨a, m, n, rfl, ⟨g, x, c, e, g0, g1, x0, x1, c0, c1⟩, hn, m0, m1, q⟩ := h
    refine ⟨_, (pss_cons (ps_if (pt_cmpR op_gt (pe_ix ix_list (pv 0) pe_int (fun _ _ => rfl)) pe_int (nomark _))
  (pss_cons (ps_set (i := 2) scT.nd rfl (.inl rfl) (pe_op op_mod (pe_ix ix_list (pv 0) pe_int (fun _ _ => rfl)) (pv 1)))
  (pss_cons (ps_asg (pe_op op_fdiv (pe_ix ix_list (pv 0) pe_int (fun _ _ => rfl)) (pv 1)) (pg_sub (pv 0) pe_int set_list))
  (pss_one (ps_ret (pv 2)))))
  pss_nil)
  (pss_cons (ps_asg (pe_op op_add (pe_ix ix_list (pv 0) pe_int (fun _ _ => rfl)) pe_int) (pg_sub (pv 0) pe_int set_list))
  (pss_cons (ps_set (i := 3) scT.nd rfl (.inl rfl) (pe_ix ix_list (pe_lst (pa_cons pe_int (pa_cons pe_int (pa_cons pe_int (pa_cons pe_int (pa_cons pe_int pa_nil)))))) (pe_op op_mod (pe_ix ix_list (pv 0) pe_int (fun _ _ => rfl)) pe_int) (fun _ _ => rfl)))
  (pss_cons (ps_set (i := 4) scT.nd rfl (.inl rfl) (pe_op op_mod (pe_op op_pow (pe_op op_add (pe_ix ix_list (pv 0) pe_int (fun _ _ => rfl)) (pe_op op_mul pe_int (pe_ix ix_list (pv 0) pe_int (fun _ _ => rfl)))) pe_int) (pv 3)))
  (pss_one (ps_ret (pe_op op_mod (pe_op op_fdiv (pe_op op_mod (pe_op op_mul (pv 4) (pe_op op_add (pe_op op_mod (pv 4) pe_int) (pe_ix ix_list (pv 0) pe_int (fun _ _ => rfl)))) (pv 3)) pe_int) (pv 1)))))))), ?_⟩
    refine ⟨.ref a, rfl, a, _, 0, .int g, rfl, rfl, SqL.of e, rfl, g, 0, rfl, rfl, _, rfl, ite2 (fun hb => ?_) (fun hb => ?_)⟩
    · refine ⟨.ref a, rfl, a, _, 0, .int g, rfl, rfl, SqL.of e, rfl, .int m, rfl, g, m, rfl, rfl, m0, ?_⟩
      refine ⟨.ref a, rfl, a, _, 0, .int g, rfl, rfl, SqL.of e, rfl, .int m, rfl, g, m, rfl, rfl, ⟨m0, m1⟩, .ref a, rfl, a, _, 0, 0, rfl, rfl, e, rfl, ?_⟩
      refine ⟨_, rfl, q _ _ Upto.upd ⟨_, x, c, upd_same, Int.ediv_nonneg g0 (by omega), ?_, x0, x1, c0, by omega⟩ (Int.emod_nonneg _ (by omega)) (Int.emod_lt_of_pos _ m0)⟩
      exact Int.lt_of_le_of_lt (Int.ediv_le_self _ g0) g1
    · refine ⟨.ref a, rfl, a, _, 2, .int c, rfl, rfl, SqL.of e, rfl, c, 1, rfl, rfl, .ref a, rfl, a, _, 2, 2, rfl, rfl, e, rfl, ?_⟩
      have e1 : (upd H a (.lst [.int g, .int x, .int (c + 1)])) a = some (.lst [.int g, .int x, .int (c + 1)]) := upd_same
      refine ⟨by show 5 ≤ sizeLine; decide, fun l nl => ?_⟩
      have nla : a ≠ l := ne_of_none e1 nl
      have e2 : ∀ o, (upd (upd H a (.lst [.int g, .int x, .int (c + 1)])) l o) a = some (.lst [.int g, .int x, .int (c + 1)]) := fun o => by rw [upd_ne nla]; exact e1
      obtain ⟨p, hp, p0⟩ := prime_of (r := (c + 1) % 5) (Int.emod_nonneg _ (by decide)) (Int.emod_lt_of_pos _ (by decide))
      refine ⟨.ref a, rfl, a, _, 2, .int (c + 1), rfl, rfl, SqL.of (e2 _), rfl, c + 1, 5, rfl, rfl, (show (0 : Int) < 5 by decide), l, _, _, _, rfl, rfl, SqL.of upd_same, hp, ?_⟩
      refine ⟨.ref a, rfl, a, _, 1, .int x, rfl, rfl, SqL.of (e2 _), rfl, .ref a, rfl, a, _, 2, .int (c + 1), rfl, rfl, SqL.of (e2 _), rfl, 7919, c + 1, rfl, rfl, .inl ⟨by decide, by decide⟩, x, _, rfl, rfl, _, 3, rfl, rfl, ⟨by decide, by decide, by omega⟩, .int p, rfl, _, p, rfl, rfl, p0, ?_⟩
      refine ⟨_, rfl, _, rfl, _, 1009, rfl, rfl, (show (0 : Int) < 1009 by decide), .ref a, rfl, a, _, 2, .int (c + 1), rfl, rfl, SqL.of (e2 _), rfl, _, _, rfl, rfl, _, _, rfl, rfl, .inr ?_, .int p, rfl, _, p, rfl, rfl, p0, _, 11, rfl, rfl, ⟨by decide, by decide⟩, .int m, rfl, _, m, rfl, rfl, m0, ?_⟩
      · have := Int.emod_nonneg ((x + 7919 * (c + 1)) ^ (3 : Int).toNat % p) (show (1009 : Int) ≠ 0 by decide)
        have := Int.emod_lt_of_pos ((x + 7919 * (c + 1)) ^ (3 : Int).toNat % p) (show (0 : Int) < 1009 by decide)
        constructor <;> omega
      · refine q _ _ ((Upto.upd).trans (.new nl)) ⟨g, x, c + 1, e2 _, g0, g1, x0, x1, by omega, by omega⟩ (Int.emod_nonneg _ (by omega)) (Int.emod_lt_of_pos _ m0)
/-! ### _law_of, of a text -/
def spOfS : Sp := fun vs H Q _ => ∃ (a : Addr) (z : Str) (n : Nat), vs = [.ref a, .str z] ∧ Hand H a n ∧ n < 2 ^ 40 ∧ 0 < z.length ∧ z.length ≤ 1000 ∧ ∀ H' c, Upto a H H' → Hand H' a (n + 1) → c ∈ z.cps.toList → Q (.str ⟨#[c]⟩) H'
theorem ok_ofS {f fT : Addr} {fd fdT : FuncData} {k : Nat} (F : Fun K "_law_of" "_law_of" sOf f fd) (DT : Df K mg "_law_take" sTake ["_law_hand_here", "_law_many"] fT fdT) (T : Bl mg) : FnOk P w K mg base CX0 (k + 2) f fd ["_law_hand_here", "_law_some"] spOfS := by
  have GT : FnOk P w K mg base CX0 1 fT fdT _ spTake := ok_take DT.F T
  refine F.ok scO (fun vs H Q E h => ?_) (fun cdv A outer s H vs Q E hr h => ?_)
  · obtain ⟨a, m, n, rfl, _⟩ := h
    rfl
  · obtain ⟨a, z, n, rfl, hH, hn, z0, z1, q⟩ := h
    refine ⟨_, (pss_one (ps_ret (pe_ix ix_str (pv 1) (pe_call GT (hr.mono (by omega)) (by rfl) DT.g DT.F.kp DT.b .nil pass0 (pa_cons (pv 0) (pa_cons (pe_callB call_len_str (by rfl) T.len PySem.boot_len (pa_cons (pv 1) pa_nil)) pa_nil))) (fun _ _ => rfl)))), ?_⟩
    have zl : z.length ≤ sizeLine := Nat.le_trans z1 (by decide)
    refine ⟨.str z, rfl, .ref a, rfl, .str z, rfl, z, rfl, zl, a, _, n, rfl, hH, hn, by omega, by omega, fun H' d u h' d0 d1 => ?_⟩
    obtain ⟨c, e1, e2⟩ := at_of (xs := z.cps.toList) d0 (by rw [Array.length_toList]; exact d1)
    exact ⟨z, d, c, rfl, rfl, zl, e2, q H' c u h' (List.mem_of_getElem? e1)⟩
end
end Cu

namespace Cu
open PySem PySem.Spec PyProof.Rows L2
/-! ### the mathematics of an edit -/
def fitB (c : Str) (p : Nat) (r : Str) : Bool := decide (p ≤ c.length) && decide (((tl c).drop p).take r.length = tl r)
def applyS (c : Str) (p : Nat) (r i : Str) : Str := mkS ((tl c).take p ++ tl i ++ (tl c).drop (p + r.length))
theorem applyS_tl (c : Str) (p : Nat) (r i : Str) : tl (applyS c p r i) = (tl c).take p ++ tl i ++ (tl c).drop (p + r.length) := tl_mk _
theorem fit_le {c : Str} {p : Nat} {r : Str} (h : fitB c p r = true) : p ≤ c.length ∧ ((tl c).drop p).take r.length = tl r ∧ p + r.length ≤ c.length := by
  unfold fitB at h
  rw [Bool.and_eq_true] at h
  have h1 := of_decide_eq_true h.1
  have h2 := of_decide_eq_true h.2
  refine ⟨h1, h2, ?_⟩
  have e := congrArg List.length h2
  rw [List.length_take, List.length_drop, tl_len, tl_len] at e
  omega
theorem applyS_len {c : Str} {p : Nat} {r : Str} (i : Str) (h : fitB c p r = true) : (applyS c p r i).length + r.length = c.length + i.length := by
  obtain ⟨h1, h2, h3⟩ := fit_le h
  rw [← tl_len, applyS_tl, List.length_append, List.length_append, List.length_take, List.length_drop, tl_len, tl_len]
  omega
theorem fit_back {c : Str} {p : Nat} {r : Str} (i : Str) (h : fitB c p r = true) : fitB (applyS c p r i) p i = true := by
  obtain ⟨h1, h2, h3⟩ := fit_le h
  have l := applyS_len i h
  have lt : ((tl c).take p).length = p := by rw [List.length_take, tl_len]; omega
  unfold fitB
  rw [Bool.and_eq_true]
  refine ⟨decide_eq_true (by omega), decide_eq_true ?_⟩
  rw [applyS_tl, List.append_assoc, List.drop_append_of_le_length (by omega), List.drop_eq_nil_of_le (by omega), List.nil_append, ← tl_len, List.take_left]
theorem apply_back {c : Str} {p : Nat} {r : Str} (i : Str) (h : fitB c p r = true) : applyS (applyS c p r i) p i r = c := by
  obtain ⟨h1, h2, h3⟩ := fit_le h
  have lt : ((tl c).take p).length = p := by rw [List.length_take, tl_len]; omega
  apply ext_t
  rw [applyS_tl, applyS_tl, List.append_assoc, List.append_assoc]
  have e1 : ((tl c).take p ++ (tl i ++ (tl c).drop (p + r.length))).take p = (tl c).take p := by
    rw [List.take_append_of_le_length (by omega), List.take_of_length_le (by omega)]
  have e2 : ((tl c).take p ++ (tl i ++ (tl c).drop (p + r.length))).drop (p + i.length) = (tl c).drop (p + r.length) := by
    rw [← List.append_assoc]
    apply List.drop_left'
    rw [List.length_append, lt, tl_len]
  rw [e1, e2, ← h2, ← List.drop_drop, List.take_append_drop, List.take_append_drop]
theorem asc_apply {c : Str} {p : Nat} {r i : Str} (hc : Asc c) (hi : Asc i) : Asc (applyS c p r i) := fun x m => by
  rw [applyS_tl, List.mem_append, List.mem_append] at m
  rcases m with (m | m) | m
  · exact hc x (List.mem_of_mem_take m)
  · exact hi x m
  · exact hc x (List.mem_of_mem_drop m)
/-! ### the program -/
abbrev sFits : Stmt := topS 4
abbrev sApply : Stmt := topS 5
abbrev sInverse : Stmt := topS 6
abbrev pFits : List Str := ["content", "edit"]
theorem scF : FnScope ["content", "edit", "document", "position", "removed", "inserted"] pFits (defScope sFits) := ⟨rfl, rfl, rfl, by decide +kernel, rfl, by decide +kernel, by decide +kernel⟩
theorem scA : FnScope ["content", "edit", "document", "position", "removed", "inserted"] pFits (defScope sApply) := ⟨rfl, rfl, rfl, by decide +kernel, rfl, by decide +kernel, by decide +kernel⟩
theorem scI : FnScope ["edit", "document", "position", "removed", "inserted"] ["edit"] (defScope sInverse) := ⟨rfl, rfl, rfl, by decide +kernel, rfl, by decide +kernel, by decide +kernel⟩
section
variable {P : Program} {w : World} {K : PySem.W.Frag} {mg : Str → Option Value} {base : Heap}
def spFits (K : PySem.W.Frag) : Sp := fun vs H Q _ => ∃ (c r : Str) (e : Addr) (d i : V) (p : Nat), vs = [.str c, .ref e] ∧ SqT K H e [d, .int (p : Int), .str r, i] ∧ c.length ≤ sizeLine ∧ r.length ≤ sizeLine ∧ Q (.bl (fitB c p r)) H
theorem ok_fits {f : Addr} {fd : FuncData} {k : Nat} (F : Fun K "fits" "fits" sFits f fd) (T : Bl mg) : FnOk P w K mg base CX0 (k + 1) f fd pFits (spFits K) := by
  refine F.ok scF (fun vs H Q E h => ?_) (fun cdv A outer s H vs Q E hr h => ?_)
  · obtain ⟨c, r, e, d, i, p, rfl, _⟩ := h
    rfl
  · obtain ⟨c, r, e, d, i, p, rfl, hS, hc, hl, q⟩ := h
    refine ⟨_, (pss_cons (ps_asg (pv 1) (pg_tup rfl (pgs_cons (pg_name (i := 2) scF.nd rfl (.inl rfl)) (pgs_cons (pg_name (i := 3) scF.nd rfl (.inl rfl)) (pgs_cons (pg_name (i := 4) scF.nd rfl (.inl rfl)) (pgs_cons (pg_name (i := 5) scF.nd rfl (.inl rfl)) pgs_nil))))))
  (pss_cons (ps_if (pt_cmpR op_gt (pv 3) (pe_callB call_len_str (by rfl) T.len PySem.boot_len (pa_cons (pv 0) pa_nil)) (nomark _))
  (pss_one (ps_ret pe_bl))
  pss_nil)
  (pss_one (ps_ret (pe_cmpR op_eq (pe_slice sl_str (pv 0) (po_some (pv 3)) (po_some (pe_op op_add (pv 3) (pe_callB call_len_str (by rfl) T.len PySem.boot_len (pa_cons (pv 4) pa_nil))))) (pv 4) (nomark _)))))), ?_⟩
    refine ⟨.ref e, rfl, e, _, rfl, hS, rfl, _, _, rfl, _, _, rfl, _, _, rfl, _, _, rfl, rfl, ?_⟩
    refine ⟨.int p, rfl, .str c, rfl, c, rfl, hc, p, c.length, rfl, rfl, _, rfl, ite2 (fun hb => ?_) (fun hb => ?_)⟩
    · have hb' : (c.length : Int) < p := of_decide_eq_true hb
      have e : fitB c p r = false := by
        unfold fitB
        rw [decide_eq_false (by omega), Bool.false_and]
      rw [e] at q
      exact q
    · have hb' : ¬ (c.length : Int) < p := fun z => hb (decide_eq_true z)
      refine ⟨.str c, rfl, .int p, rfl, p, rfl, .int p, rfl, .str r, rfl, r, rfl, hl, p, r.length, rfl, rfl, _, rfl, c, rfl, hc, .str r, rfl, rfl, ?_⟩
      have e : decide (V.str (cutS c (some (p : Int)) (some ((p : Int) + r.length))) = V.str r) = fitB c p r := by
        unfold fitB
        rw [decide_eq_true (show p ≤ c.length by omega), Bool.true_and]
        have ec := cut_both c p (p + r.length)
        rw [Nat.add_sub_cancel_left] at ec
        have ei : ((p : Int) + r.length) = ((p + r.length : Nat) : Int) := by omega
        rw [ei]
        by_cases h : ((tl c).drop p).take r.length = tl r
        · rw [decide_eq_true h]
          refine decide_eq_true ?_
          rw [ext_t (ec.trans h)]
        · rw [decide_eq_false h]
          refine decide_eq_false fun z => h ?_
          rw [← ec, V.str.inj z]
      rw [e]
      exact q
def spApply (K : PySem.W.Frag) : Sp := fun vs H Q _ => ∃ (c r i : Str) (e : Addr) (d : V) (p : Nat), vs = [.str c, .ref e] ∧ SqT K H e [d, .int (p : Int), .str r, .str i] ∧ c.length ≤ 1000000 ∧ r.length ≤ 1000000 ∧ i.length ≤ 1000000 ∧ fitB c p r = true ∧ Q (.str (applyS c p r i)) H
theorem ok_apply {f fF : Addr} {fd fdF : FuncData} {k : Nat} (F : Fun K "apply" "apply" sApply f fd) (DF : Df K mg "fits" sFits pFits fF fdF) (T : Bl mg) : FnOk P w K mg base CX0 (k + 2) f fd pFits (spApply K) := by
  have GF : FnOk P w K mg base CX0 1 fF fdF _ (spFits K) := ok_fits DF.F T
  refine F.ok scA (fun vs H Q E h => ?_) (fun cdv A outer s H vs Q E hr h => ?_)
  · obtain ⟨c, r, i, e, d, p, rfl, _⟩ := h
    rfl
  · obtain ⟨c, r, i, e, d, p, rfl, hS, hc, hl, hi, hf, q⟩ := h
    refine ⟨_, (pss_cons (ps_asg (pv 1) (pg_tup rfl (pgs_cons (pg_name (i := 2) scA.nd rfl (.inl rfl)) (pgs_cons (pg_name (i := 3) scA.nd rfl (.inl rfl)) (pgs_cons (pg_name (i := 4) scA.nd rfl (.inl rfl)) (pgs_cons (pg_name (i := 5) scA.nd rfl (.inl rfl)) pgs_nil))))))
  (pss_cons (ps_if (pt_not (pt_val (pe_call GF (hr.mono (by omega)) (by rfl) DF.g DF.F.kp DF.b .nil pass0 (pa_cons (pv 0) (pa_cons (pv 1) pa_nil)))))
  (pss_one ps_never)
  pss_nil)
  (pss_one (ps_ret (pe_op op_add_str (pe_op op_add_str (pe_slice sl_str (pv 0) po_none (po_some (pv 3))) (pv 5)) (pe_slice sl_str (pv 0) (po_some (pe_op op_add (pv 3) (pe_callB call_len_str (by rfl) T.len PySem.boot_len (pa_cons (pv 4) pa_nil)))) po_none)))))), ?_⟩
    have z1 : (1000000 : Nat) ≤ sizeLine := by decide
    have z3 : (3000000 : Nat) ≤ sizeLine := by decide
    refine ⟨.ref e, rfl, e, _, rfl, hS, rfl, _, _, rfl, _, _, rfl, _, _, rfl, _, _, rfl, rfl, ?_⟩
    refine ⟨.str c, rfl, .ref e, rfl, c, r, e, d, .str i, p, rfl, hS, by omega, by omega, _, rfl, ?_⟩
    rw [hf]
    refine iteF ?_
    have l1 := cutS_length c none (some (p : Int))
    have l2 := cutS_length c (some ((p : Int) + r.length)) none
    refine ⟨.str c, rfl, .int p, rfl, p, rfl, c, rfl, by omega, .str i, rfl, _, i, rfl, rfl, by omega, .str c, rfl, .int p, rfl, .str r, rfl, r, rfl, by omega, p, r.length, rfl, rfl, _, rfl, c, rfl, by omega, _, _, rfl, rfl, ?_, ?_⟩
    · rw [strLen_append]
      omega
    · have ei : ((p : Int) + r.length) = ((p + r.length : Nat) : Int) := by omega
      have e : cutS c none (some (p : Int)) ++ i ++ cutS c (some ((p : Int) + r.length)) none = applyS c p r i := by
        apply ext_t
        rw [applyS_tl, tl_app, tl_app, cut_left, ei, cut_right]
      rw [e]
      exact q
def spInv (K : PySem.W.Frag) : Sp := fun vs H Q _ => ∃ (e : Addr) (d p r i : V), vs = [.ref e] ∧ SqT K H e [d, p, r, i] ∧ ∀ t, H t = none → Q (.ref t) (upd H t (.tup [d, p, i, r]))
theorem ok_inverse {f : Addr} {fd : FuncData} {k : Nat} (F : Fun K "inverse" "inverse" sInverse f fd) : FnOk P w K mg base CX0 (k + 1) f fd ["edit"] (spInv K) := by
  refine F.ok scI (fun vs H Q E h => ?_) (fun cdv A outer s H vs Q E hr h => ?_)
  · obtain ⟨e, d, p, r, i, rfl, _⟩ := h
    rfl
  · obtain ⟨e, d, p, r, i, rfl, hS, q⟩ := h
    refine ⟨_, (pss_cons (ps_asg (pv 0) (pg_tup rfl (pgs_cons (pg_name (i := 1) scI.nd rfl (.inl rfl)) (pgs_cons (pg_name (i := 2) scI.nd rfl (.inl rfl)) (pgs_cons (pg_name (i := 3) scI.nd rfl (.inl rfl)) (pgs_cons (pg_name (i := 4) scI.nd rfl (.inl rfl)) pgs_nil))))))
  (pss_one (ps_ret (pe_tup (pa_cons (pv 1) (pa_cons (pv 2) (pa_cons (pv 4) (pa_cons (pv 3) pa_nil)))))))), ?_⟩
    refine ⟨.ref e, rfl, e, _, rfl, hS, rfl, _, _, rfl, _, _, rfl, _, _, rfl, _, _, rfl, rfl, ?_⟩
    exact ⟨_, rfl, _, rfl, _, rfl, _, rfl, by show 4 ≤ sizeLine; decide, fun t nt => q t nt⟩
/-! ### _law_piece, _law_fitting -/
abbrev sPiece : Stmt := topS 11
abbrev sFitting : Stmt := topS 12
theorem scP : FnScope ["_law_hand_here", "_law_most", "_law_turn"] ["_law_hand_here", "_law_most"] (defScope sPiece) := ⟨rfl, rfl, rfl, by decide +kernel, rfl, by decide +kernel, by decide +kernel⟩
theorem scG : FnScope ["_law_hand_here", "_law_content", "_law_position"] ["_law_hand_here", "_law_content"] (defScope sFitting) := ⟨rfl, rfl, rfl, by decide +kernel, rfl, by decide +kernel, by decide +kernel⟩
def spPiece : Sp := fun vs H Q _ => ∃ (a : Addr) (m n : Nat), vs = [.ref a, .int (m : Int)] ∧ Hand H a n ∧ n + 100 < 2 ^ 40 ∧ m ≤ 50 ∧ ∀ H' z, Upto a H H' → Hand H' a (n + 60) → z.length ≤ m → Asc z → Q (.str z) H'
theorem signs_asc {c : Nat} (h : c ∈ (Str.ofString "abxyz .~").cps.toList) : c < 128 := by
  have e : ∀ c ∈ (Str.ofString "abxyz .~").cps.toList, c < 128 := by decide +kernel
  exact e c h
theorem ok_piece {f fT fO : Addr} {fd fdT fdO : FuncData} {k : Nat} (F : Fun K "_law_piece" "_law_piece" sPiece f fd) (DT : Df K mg "_law_take" sTake ["_law_hand_here", "_law_many"] fT fdT) (DO : Df K mg "_law_of" sOf ["_law_hand_here", "_law_some"] fO fdO) (T : Bl mg) :
    FnOk P w K mg base CX0 (k + 3) f fd ["_law_hand_here", "_law_most"] spPiece := by
  have GT : FnOk P w K mg base CX0 1 fT fdT _ spTake := ok_take DT.F T
  have GO : FnOk P w K mg base CX0 2 fO fdO _ spOfS := ok_ofS DO.F DT T
  refine F.ok scP (fun vs H Q E h => ?_) (fun cdv A outer s H vs Q E hr h => ?_)
  · obtain ⟨a, m, n, rfl, _⟩ := h
    rfl
  · obtain ⟨a, m, n, rfl, hH, hn, hm, q⟩ := h
    refine ⟨_, (pss_one (ps_ret (pe_join pe_str (pe_lc (own := [("_law_turn", 2)]) (g := gName 2) (tt := tYes) rfl scP.nd (pi_range1 (by rfl) T.range (pa_cons (pe_call GT (hr.mono (by omega)) (by rfl) DT.g DT.F.kp DT.b .nil pass0 (pa_cons (pv 0) (pa_cons (pe_op op_add (pv 1) pe_int) pa_nil))) pa_nil)) (blkOk_by (own := [("_law_turn", 2)]) (N := ["_law_hand_here", "_law_most", "_law_turn"]) (sc := defScope sPiece) (by decide +kernel)) (fun _ _ _ _ _ => (pg_name (i := 2) scP.nd rfl (.inl rfl))) (fun _ _ _ _ _ => pts_nil) (fun _ _ _ _ _ => (pe_call GO (hr.mono (by omega)) (by rfl) DO.g DO.F.kp DO.b .nil pass0 (pa_cons (pv 0) (pa_cons pe_str pa_nil)))))))), ?_⟩
    refine ⟨⟨_, rfl⟩, .ref a, rfl, .int m, rfl, m, 1, rfl, rfl, a, m + 1, n, rfl, hH, by omega, by omega, by omega, fun H1 d u1 h1 d0 d1 => ?_⟩
    refine ⟨d, rfl, by omega, by omega, fun D nD => ?_⟩
    have nDa : D ≠ a := fun z => by
      obtain ⟨o, eo⟩ := h1.some
      rw [z, eo] at nD
      cases nD
    refine lc_range (lo := 0) (n := d.toNat) (fun i H2 => ∃ ys : List Str, H2 D = some (.lst (ys.map V.str)) ∧ ys.length = i ∧ (∀ y ∈ ys, y.length = 1 ∧ Asc y) ∧ Upto a H H2 ∧ Hand H2 a (n + 1 + i)) ?_ ?_ ?_
    · exact ⟨[], upd_same, rfl, fun y m => (nomatch m), u1.trans (.new nD), h1.new nD⟩
    · rintro i H2 hi ⟨ys, eD, el, ey, u2, h2⟩
      refine ⟨rfl, lc_yes ?_⟩
      refine ⟨.ref a, rfl, a, _, n + 1 + i, rfl, h2, by omega, by decide +kernel, by decide +kernel, fun H3 c u3 h3 hc => ?_⟩
      refine ⟨_, u3 D _ nDa eD, ?_, ys ++ [⟨#[c]⟩], ?_, ?_, ?_, ?_, ?_⟩
      · rw [List.length_map, el]
        exact small1000 (by omega)
      · rw [upd_same, List.map_append]
        rfl
      · rw [List.length_append, el]
        rfl
      · intro y my
        rcases List.mem_append.mp my with my | my
        · exact ey y my
        · rw [List.mem_singleton.mp my]
          refine ⟨rfl, fun x mx => ?_⟩
          have ex : x = c := by simpa using mx
          rw [ex]
          exact signs_asc hc
      · refine fun b o nb eb => ?_
        have nbD : b ≠ D := fun z => by
          rw [z] at eb
          have : H D = none := by
            cases hD : H D with
            | none => rfl
            | some o' =>
              have := u1 D o' nDa hD
              rw [nD] at this
              cases this
          rw [this] at eb
          cases eb
        rw [upd_ne nbD]
        exact u3 b o nb (u2 b o nb eb)
      · exact h3.at (upd_ne nDa.symm)
    · rintro H2 ⟨ys, eD, el, ey, u2, h2⟩
      have hs : ∀ zs : List Str, (∀ y ∈ zs, y.length = 1 ∧ Asc y) → (zs.map (·.length)).sum = zs.length ∧ ((zs.map tl).flatten).length = zs.length ∧ ∀ c ∈ (zs.map tl).flatten, c < 128 := by
        intro zs
        induction zs with
        | nil => exact fun _ => ⟨rfl, rfl, fun c m => (nomatch m)⟩
        | cons y r ih =>
          intro hz
          obtain ⟨i1, i2, i3⟩ := ih fun v m => hz v (List.mem_cons_of_mem _ m)
          obtain ⟨j1, j2⟩ := hz y List.mem_cons_self
          refine ⟨?_, ?_, fun c mc => ?_⟩
          · rw [List.map_cons, List.sum_cons, i1, j1, List.length_cons]
            omega
          · rw [List.map_cons, List.flatten_cons, List.length_append, i2, tl_len, j1, List.length_cons]
            omega
          · rw [List.map_cons, List.flatten_cons] at mc
            rcases List.mem_append.mp mc with mc | mc
            · exact j2 c mc
            · exact i3 c mc
      obtain ⟨s1, s2, s3⟩ := hs ys ey
      refine ⟨_, D, ys, rfl, rfl, .inl (SqL.of eD), ?_, ?_⟩
      · rw [s1]
        show ys.length + ys.length * 0 ≤ _
        omega
      · refine q _ _ u2 (h2.mono (by omega)) ?_ ?_
        · rw [← tl_len, tl_join0, s2]
          omega
        · intro c mc
          rw [tl_join0] at mc
          exact s3 c mc
def spFitting : Sp := fun vs H Q _ => ∃ (a : Addr) (c : Str) (n : Nat), vs = [.ref a, .str c] ∧ Hand H a n ∧ n + 200 < 2 ^ 40 ∧ c.length ≤ 1000 ∧ Asc c ∧ ∀ H' t (p : Nat) r i, Upto a H H' → Hand H' a (n + 70) →
    H' t = some (.tup [.str "doc", .int (p : Int), .str r, .str i]) → fitB c p r = true → i.length ≤ 4 → Asc r → Asc i → Q (.ref t) H'
theorem ok_fitting {f fT fP : Addr} {fd fdT fdP : FuncData} {k : Nat} (F : Fun K "_law_fitting" "_law_fitting" sFitting f fd) (DT : Df K mg "_law_take" sTake ["_law_hand_here", "_law_many"] fT fdT) (DP : Df K mg "_law_piece" sPiece ["_law_hand_here", "_law_most"] fP fdP)
    (GP : FnOk P w K mg base CX0 3 fP fdP ["_law_hand_here", "_law_most"] spPiece) (T : Bl mg) : FnOk P w K mg base CX0 (k + 4) f fd ["_law_hand_here", "_law_content"] spFitting := by
  have GT : FnOk P w K mg base CX0 1 fT fdT _ spTake := ok_take DT.F T
  refine F.ok scG (fun vs H Q E h => ?_) (fun cdv A outer s H vs Q E hr h => ?_)
  · obtain ⟨a, c, n, rfl, _⟩ := h
    rfl
  · obtain ⟨a, c, n, rfl, hH, hn, hc, ac, q⟩ := h
    refine ⟨_, (pss_cons (ps_set (i := 2) scG.nd rfl (.inl rfl) (pe_call GT (hr.mono (by omega)) (by rfl) DT.g DT.F.kp DT.b .nil pass0 (pa_cons (pv 0) (pa_cons (pe_op op_add (pe_callB call_len_str (by rfl) T.len PySem.boot_len (pa_cons (pv 1) pa_nil)) pe_int) pa_nil))))
  (pss_one (ps_ret (pe_tup (pa_cons pe_str (pa_cons (pv 2) (pa_cons (pe_slice sl_str (pv 1) (po_some (pv 2)) (po_some (pe_op op_add (pv 2) (pe_call GT (hr.mono (by omega)) (by rfl) DT.g DT.F.kp DT.b .nil pass0 (pa_cons (pv 0) (pa_cons pe_int pa_nil)))))) (pa_cons (pe_call GP (hr.mono (by omega)) (by rfl) DP.g DP.F.kp DP.b .nil pass0 (pa_cons (pv 0) (pa_cons pe_int pa_nil))) pa_nil)))))))), ?_⟩
    have zc : c.length ≤ sizeLine := Nat.le_trans hc (by decide)
    refine ⟨.ref a, rfl, .str c, rfl, c, rfl, zc, c.length, 1, rfl, rfl, a, c.length + 1, n, rfl, hH, by omega, by omega, by omega, fun H1 p u1 h1 p0 p1 => ?_⟩
    obtain ⟨p, rfl⟩ := Int.eq_ofNat_of_zero_le p0
    refine ⟨.int p, rfl, .str c, rfl, .int p, rfl, p, rfl, .int p, rfl, .ref a, rfl, a, 4, n + 1, rfl, h1, by omega, by decide, by decide, fun H2 d u2 h2 d0 d1 => ?_⟩
    obtain ⟨d, rfl⟩ := Int.eq_ofNat_of_zero_le d0
    refine ⟨p, d, rfl, rfl, _, rfl, c, rfl, zc, .ref a, rfl, a, 4, n + 2, rfl, h2, by omega, by decide, fun H3 z u3 h3 z4 az => ?_⟩
    refine ⟨by show 4 ≤ sizeLine; decide, fun t nt => ?_⟩
    have ei : ((p : Int) + d) = ((p + d : Nat) : Int) := by omega
    have ec : tl (cutS c (some (p : Int)) (some ((p : Int) + d))) = ((tl c).drop p).take d := by
      rw [ei, cut_both, Nat.add_sub_cancel_left]
    refine q _ t p _ z ((u1.trans (u2.trans u3)).trans (.new nt)) ((h3.new nt).mono (by omega)) upd_same ?_ z4 ?_ az
    · unfold fitB
      rw [Bool.and_eq_true]
      refine ⟨decide_eq_true (by omega), decide_eq_true ?_⟩
      rw [← tl_len, ec, List.length_take, ← List.take_take, List.take_length]
    · intro x mx
      rw [ec] at mx
      exact ac x (List.mem_of_mem_drop (List.mem_of_mem_take mx))
end
end Cu

namespace Cu
open PySem PySem.Spec PyProof.Rows L2
abbrev sChain : Stmt := topS 13
abbrev sLaw : Stmt := topS 14
theorem scC : FnScope ["_law_hand_here", "_law_contents", "_law_chain", "_law_turn", "_law_edit", "_law_back", "_law_here", "_law_at"] ["_law_hand_here"] (defScope sChain) := ⟨rfl, rfl, rfl, by decide +kernel, rfl, by decide +kernel, by decide +kernel⟩
theorem scL : FnScope ["_law_script", "_law_k", "_law_hand_here", "_law_turn"] ["_law_script"] (defScope sLaw) := ⟨rfl, rfl, rfl, by decide +kernel, rfl, by decide +kernel, by decide +kernel⟩
/-- the chain so far: contents C, edits at R -/
structure Chn (H : Hp) (C : List Str) (R : List Addr) : Prop where
  len : C.length = R.length + 1
  step : ∀ j t, R[j]? = some t → ∃ (c : Str) (p : Nat) (r i : Str), C[j]? = some c ∧ H t = some (.tup [.str "doc", .int (p : Int), .str r, .str i]) ∧ fitB c p r = true ∧ i.length ≤ 4 ∧ C[j + 1]? = some (applyS c p r i)
  fine : ∀ (j : Nat) c, C[j]? = some c → Asc c ∧ c.length ≤ 20 + 4 * j
theorem Chn.keep {H H' : Hp} {C : List Str} {R : List Addr} (h : Chn H C R) (k : ∀ t, t ∈ R → ∀ xs, H t = some (.tup xs) → H' t = some (.tup xs)) : Chn H' C R := by
  refine ⟨h.len, fun j t e => ?_, h.fine⟩
  obtain ⟨c, p, r, i, h1, h2, h3⟩ := h.step j t e
  exact ⟨c, p, r, i, h1, k t (List.mem_of_getElem? e) _ h2, h3⟩
theorem Chn.more {H : Hp} {C : List Str} {R : List Addr} (h : Chn H C R) {t : Addr} {c r i : Str} {p : Nat} (hc : C[R.length]? = some c) (ht : H t = some (.tup [.str "doc", .int (p : Int), .str r, .str i])) (hf : fitB c p r = true) (hi : i.length ≤ 4) (ai : Asc i) :
    Chn H (C ++ [applyS c p r i]) (R ++ [t]) := by
  have hl := h.len
  refine ⟨by rw [List.length_append, List.length_append, hl]; rfl, fun j u e => ?_, fun j u e => ?_⟩
  · by_cases hj : j < R.length
    · rw [List.getElem?_append_left hj] at e
      obtain ⟨c', p', r', i', h1, h2, h3, h4, h5⟩ := h.step j u e
      refine ⟨c', p', r', i', ?_, h2, h3, h4, ?_⟩
      · rw [List.getElem?_append_left (by omega)]
        exact h1
      · rw [List.getElem?_append_left (by omega)]
        exact h5
    · have hj2 : j < (R ++ [t]).length := (List.getElem?_eq_some_iff.mp e).1
      rw [List.length_append, List.length_singleton] at hj2
      have ej : j = R.length := by omega
      subst ej
      rw [List.getElem?_append_right (Nat.le_refl _), Nat.sub_self] at e
      cases Option.some.inj e
      refine ⟨c, p, r, i, ?_, ht, hf, hi, ?_⟩
      · rw [List.getElem?_append_left (by omega)]
        exact hc
      · rw [List.getElem?_append_right (by omega), hl, Nat.sub_self]
        rfl
  · by_cases hj : j < C.length
    · rw [List.getElem?_append_left hj] at e
      exact h.fine j u e
    · have hj2 : j < (C ++ [applyS c p r i]).length := (List.getElem?_eq_some_iff.mp e).1
      rw [List.length_append, List.length_singleton] at hj2
      have ej : j = C.length := by omega
      subst ej
      rw [List.getElem?_append_right (Nat.le_refl _), Nat.sub_self] at e
      cases Option.some.inj e
      obtain ⟨f1, f2⟩ := h.fine R.length c hc
      have l := applyS_len i hf
      exact ⟨asc_apply f1 ai, by omega⟩
theorem log_of {p k : Nat} (h : p < 2 ^ k) (hk : k ≤ 1920) : (p : Int).natAbs.log2 < 1920 := by
  rw [Int.natAbs_natCast]
  by_cases h0 : p = 0
  · subst h0
    decide
  · exact Nat.lt_of_lt_of_le ((Nat.log2_lt h0).mpr h) hk
theorem strOk_of {z : Str} (h : Asc z) : PyData.strOk z = true := by
  unfold PyData.strOk
  rw [Array.all_eq_true_iff_forall_mem]
  intro c m
  exact decide_eq_true (Nat.lt_trans (h c (Array.mem_toList_iff.mpr m)) (by decide))
theorem lay4 {d r i : Str} {p : Int} (hd : Asc d) (hr : Asc r) (hi : Asc i) : (PyData.tuple [.str d, .int p, .str r, .str i]).canLay0 = true := by simp [PyData.canLay0, PyData.canLayAll0, strOk_of hd, strOk_of hr, strOk_of hi]
theorem sh4 {d r i : Str} {p : Int} (hd : Asc d) (hr : Asc r) (hi : Asc i) : SeqAt.shaped (.tuple [.str d, .int p, .str r, .str i]) = true := by
  unfold SeqAt.shaped
  rw [lay4 hd hr hi]
  simp [PyData.depth, PyData.depthAll]
section
variable {P : Program} {w : World} {K : PySem.W.Frag} {mg : Str → Option Value} {base : Heap}
def spChain : Sp := fun vs H Q _ => ∃ (a : Addr) (n : Nat), vs = [.ref a] ∧ Hand H a n ∧ n + 2000 < 2 ^ 40 ∧ ∀ H', Upto a H H' → Hand H' a (n + 1500) → Q (.bl true) H'
theorem at_last {α β : Type} (f : α → β) {xs : List α} {n : Nat} {v : α} (hl : xs.length = n + 1) (h : xs[n]? = some v) : atI (xs.map f) (-1) = some (f v) := by
  unfold atI ixN
  rw [List.length_map, hl, if_neg (by decide), if_pos (by omega)]
  show (xs.map f)[(-1 + ((n + 1 : Nat) : Int)).toNat]? = _
  rw [show (-1 + ((n + 1 : Nat) : Int)).toNat = n by omega, List.getElem?_map, h]
  rfl
theorem ok_chain {f fT fP fF fA fI fG : Addr} {fd fdT fdP fdF fdA fdI fdG : FuncData} (F : Fun K "_law_chain_right" "_law_chain_right" sChain f fd) (DT : Df K mg "_law_take" sTake ["_law_hand_here", "_law_many"] fT fdT) (DP : Df K mg "_law_piece" sPiece ["_law_hand_here", "_law_most"] fP fdP)
    (DF : Df K mg "fits" sFits pFits fF fdF) (DA : Df K mg "apply" sApply pFits fA fdA) (DI : Df K mg "inverse" sInverse ["edit"] fI fdI) (DG : Df K mg "_law_fitting" sFitting ["_law_hand_here", "_law_content"] fG fdG)
    (GP : FnOk P w K mg base CX0 3 fP fdP ["_law_hand_here", "_law_most"] spPiece) (GG : FnOk P w K mg base CX0 4 fG fdG ["_law_hand_here", "_law_content"] spFitting) (T : Bl mg) : FnG P w K mg base CX0 5 f fd ["_law_hand_here"] spChain := by
  have GT : FnOk P w K mg base CX0 1 fT fdT _ spTake := ok_take DT.F T
  have GF : FnOk P w K mg base CX0 1 fF fdF _ (spFits K) := ok_fits DF.F T
  have GA : FnOk P w K mg base CX0 2 fA fdA _ (spApply K) := ok_apply DA.F DF T
  have GI : FnOk P w K mg base CX0 1 fI fdI _ (spInv K) := ok_inverse DI.F
  refine okG F scC (fun vs H Q E h => ?_) (fun cdv A outer s H vs Q E gd hr h => ?_)
  · obtain ⟨a, n, rfl, _⟩ := h
    rfl
  · obtain ⟨a, n, rfl, hH, hn, q⟩ := h
    refine ⟨_, (pss_cons (ps_par (i := 1) (j := 2) (by rfl) scC.nd rfl rfl (by decide) rfl rfl (pa_cons (pe_lst (pa_cons (pe_call GP (hr.mono (by decide)) (by rfl) DP.g DP.F.kp DP.b .nil pass0 (pa_cons (pv 0) (pa_cons pe_int pa_nil))) pa_nil)) (pa_cons (pe_lst pa_nil) pa_nil)) (by rfl))
  (pss_cons (ps_for PassesOwn.never rfl (pi_range1 (by rfl) T.range (pa_cons (pe_call GT (hr.mono (by decide)) (by rfl) DT.g DT.F.kp DT.b .nil pass0 (pa_cons (pv 0) (pa_cons pe_int pa_nil))) pa_nil)) (pg_name (i := 3) scC.nd rfl (.inl rfl))
  (pss_cons (ps_set (i := 4) scC.nd rfl (.inl rfl) (pe_call GG (hr.mono (by decide)) (by rfl) DG.g DG.F.kp DG.b .nil pass0 (pa_cons (pv 0) (pa_cons (pe_ix ix_list (pv 1) (pe_un un_neg pe_int) (fun _ _ => rfl)) pa_nil))))
  (pss_cons (ps_set (i := 5) scC.nd rfl (.inl rfl) (pe_call GI (hr.mono (by decide)) (by rfl) DI.g DI.F.kp DI.b .nil pass0 (pa_cons (pv 4) pa_nil)))
  (pss_cons (ps_if (PW.pt (pw_or (pt_cmpR op_ne (pe_callB (call_reprD gd hr.units) (by rfl) T.repr (by decide +kernel) (pa_cons (pv 5) pa_nil)) (pe_callB (call_reprD gd hr.units) (by rfl) T.repr (by decide +kernel) (pa_cons (pe_tup (pa_cons (pe_ix ix_tup (pv 4) pe_int (fun _ _ => rfl)) (pa_cons (pe_ix ix_tup (pv 4) pe_int (fun _ _ => rfl)) (pa_cons (pe_ix ix_tup (pv 4) pe_int (fun _ _ => rfl)) (pa_cons (pe_ix ix_tup (pv 4) pe_int (fun _ _ => rfl)) pa_nil))))) pa_nil)) (nomark _)) (pw_or1 (pt_cmpR (op_neD hr.units) (pe_call GI (hr.mono (by decide)) (by rfl) DI.g DI.F.kp DI.b .nil pass0 (pa_cons (pv 5) pa_nil)) (pv 4) (nomark _)))))
  (pss_one (ps_ret pe_bl))
  pss_nil)
  (pss_cons (ps_expr (pe_bm PySem.F.plainAttrs_list PySem.F.slot_list_append PySem.F.type_list_append mt_append (pv 2) (pa_cons (pv 4) pa_nil)))
  (pss_cons (ps_expr (pe_bm PySem.F.plainAttrs_list PySem.F.slot_list_append PySem.F.type_list_append mt_append (pv 1) (pa_cons (pe_call GA (hr.mono (by decide)) (by rfl) DA.g DA.F.kp DA.b .nil pass0 (pa_cons (pe_ix ix_list (pv 1) (pe_un un_neg pe_int) (fun _ _ => rfl)) (pa_cons (pv 4) pa_nil))) pa_nil)))
  (pss_one (ps_if (pt_cmpR op_notBl (pe_call GF (hr.mono (by decide)) (by rfl) DF.g DF.F.kp DF.b .nil pass0 (pa_cons (pe_ix ix_list (pv 1) (pe_un un_neg pe_int) (fun _ _ => rfl)) (pa_cons (pv 5) pa_nil))) pe_bl (nomark _))
  (pss_one (ps_ret pe_bl))
  pss_nil))))))))
  (pss_cons (ps_set (i := 6) scC.nd rfl (.inl rfl) (pe_ix ix_list (pv 1) (pe_un un_neg pe_int) (fun _ _ => rfl)))
  (pss_cons (ps_for PassesOwn.never rfl (pi_range3 (by rfl) T.range (pa_cons (pe_op op_sub (pe_callB call_len_seq (by rfl) T.len PySem.boot_len (pa_cons (pv 2) pa_nil)) pe_int) (pa_cons (pe_un un_neg pe_int) (pa_cons (pe_un un_neg pe_int) pa_nil)))) (pg_name (i := 7) scC.nd rfl (.inl rfl))
  (pss_cons (ps_set (i := 6) scC.nd rfl (.inl rfl) (pe_call GA (hr.mono (by decide)) (by rfl) DA.g DA.F.kp DA.b .nil pass0 (pa_cons (pv 6) (pa_cons (pe_call GI (hr.mono (by decide)) (by rfl) DI.g DI.F.kp DI.b .nil pass0 (pa_cons (pe_ix ix_list (pv 2) (pv 7) (fun _ _ => rfl)) pa_nil)) pa_nil))))
  (pss_one (ps_if (pt_cmpR op_ne (pv 6) (pe_ix ix_list (pv 1) (pv 7) (fun _ _ => rfl)) (nomark _))
  (pss_one (ps_ret pe_bl))
  pss_nil))))
  (pss_one (ps_ret pe_bl)))))), ?_⟩
    refine ⟨.ref a, rfl, a, 20, n, rfl, hH, by omega, by decide, fun H1 z u1 h1 z20 az => ?_⟩
    refine ⟨by show 1 ≤ sizeLine; decide, fun cs ncs => ⟨by show 0 ≤ sizeLine; decide, fun ch nch => ⟨_, _, rfl, ?_⟩⟩⟩
    have csa : cs ≠ a := Hand.ne h1.some ncs
    have cha : ch ≠ a := Hand.ne (h1.new ncs).some nch
    have chcs : ch ≠ cs := fun e => by
      rw [e, upd_same] at nch
      cases nch
    have fcs : H cs = none := u1.free csa ncs
    have fch : H ch = none := by
      refine u1.free cha ?_
      rw [upd_ne chcs] at nch
      exact nch
    have u2 : Upto a H (upd (upd H1 cs (.lst [.str z])) ch (.lst [])) := (u1.put fcs).put fch
    have h2 := (h1.new (o := .lst [.str z]) ncs).new (o := .lst []) nch
    refine ⟨.ref a, rfl, a, 11, n + 60, rfl, h2, by omega, by decide, by decide, fun H3 d u3 h3 d0 d1 => ⟨d, rfl, by omega, by omega, ?_⟩⟩
    have ecs3 : H3 cs = some (.lst [.str z]) := u3 cs _ csa (by rw [upd_ne chcs.symm, upd_same])
    have ech3 : H3 ch = some (.lst []) := u3 ch _ cha upd_same
    refine for_range (lo := 0) (n := d.toNat) (fun i σ H4 => ∃ (y3 y4 y5 : Option V) (C : List Str) (R : List Addr), σ = [some (.ref a), some (.ref cs), some (.ref ch), y3, y4, y5, none, none] ∧ H4 cs = some (.lst (C.map V.str)) ∧ H4 ch = some (.lst (R.map V.ref)) ∧ R.length = i ∧ Chn H4 C R ∧
      Upto a H H4 ∧ Hand H4 a (n + 61 + 75 * i)) ?_ ?_ ?_
    · refine ⟨none, none, none, [z], [], rfl, ecs3, ech3, rfl, ⟨rfl, fun j t e => (by cases e), fun j c e => ?_⟩, u2.trans u3, h3⟩
      cases j with
      | zero =>
        cases Option.some.inj e
        exact ⟨az, by omega⟩
      | succ j => cases e
    · rintro i σ H4 hi ⟨y3, y4, y5, C, R, rfl, ecs, ech, hR, hC, u4, h4⟩
      obtain ⟨c, hc⟩ : ∃ c, C[R.length]? = some c := ⟨C[R.length]'(by rw [hC.len]; omega), List.getElem?_eq_getElem _⟩
      obtain ⟨ac, lc⟩ := hC.fine _ _ hc
      have al : atI (C.map V.str) (-1) = some (.str c) := at_last V.str hC.len hc
      -- the edit
      refine ⟨.ref a, rfl, .ref cs, rfl, 1, rfl, cs, _, -1, _, rfl, rfl, SqL.of ecs, al, a, c, n + 61 + 75 * i, rfl, h4, by omega, by omega, ac, fun H5 t p r ins u5 h5 ht hf hi4 ar ai => ?_⟩
      have ecs5 := u5 cs _ csa ecs
      have ech5 := u5 ch _ cha ech
      have hC5 : Chn H5 C R := hC.keep fun t' m xs e => u5 t' _ (fun z => by
        obtain ⟨o, eo⟩ := h4.some
        obtain ⟨g, x, cc, eg, _⟩ := h4
        rw [z, eg] at e
        cases e) e
      -- its inverse
      refine ⟨.ref t, rfl, t, _, _, _, _, rfl, SqT.of ht, fun b nb => ?_⟩
      have s6 := same_upd (H := H5) (p := b) (o := .tup [.str "doc", .int (p : Int), .str ins, .str r]) nb
      have adoc : Asc "doc" := by
        intro x m
        have e : ∀ x ∈ (Str.ofString "doc").cps.toList, x < 128 := by decide +kernel
        exact e x m
      obtain ⟨pl, _, prl⟩ := fit_le hf
      have gd4 : Good 20000 1 (.tuple [.str "doc", .int (p : Int), .str ins, .str r]) := by
        refine good_tup (n := 2000) (k := 0) ?_ (by show 2002 * 4 + 2 ≤ 20000; decide)
        intro dd m
        rcases List.mem_cons.mp m with rfl | m
        · exact good_str adoc (by decide +kernel)
        rcases List.mem_cons.mp m with rfl | m
        · refine good_int (log_of (k := 10) (by omega) (by decide)) (by decide)
        rcases List.mem_cons.mp m with rfl | m
        · exact good_str ai (by omega)
        rcases List.mem_cons.mp m with rfl | m
        · exact good_str ar (by omega)
        · cases m
      have dpB : ∀ {H' : Hp} {x : Addr}, H' x = some (.tup [.str "doc", .int (p : Int), .str ins, .str r]) → Dp K H' (.ref x) (.tuple [.str "doc", .int (p : Int), .str ins, .str r]) := fun e => .tup (SqT.of e) (.cons (.str _) (.cons (.int _) (.cons (.str _) (.cons (.str _) .nil))))
      have dpE : ∀ {H' : Hp} {x : Addr}, H' x = some (.tup [.str "doc", .int (p : Int), .str r, .str ins]) → Dp K H' (.ref x) (.tuple [.str "doc", .int (p : Int), .str r, .str ins]) := fun e => .tup (SqT.of e) (.cons (.str _) (.cons (.int _) (.cons (.str _) (.cons (.str _) .nil))))
      have ht6 := s6 _ _ ht
      refine ⟨.ref b, rfl, _, _, rfl, dpB upd_same, gd4.shw, ?_⟩
      refine ⟨.ref t, rfl, t, _, 0, _, rfl, rfl, SqT.of ht6, rfl, .ref t, rfl, t, _, 1, _, rfl, rfl, SqT.of ht6, rfl, .ref t, rfl, t, _, 3, _, rfl, rfl, SqT.of ht6, rfl, .ref t, rfl, t, _, 2, _, rfl, rfl, SqT.of ht6, rfl, by show 4 ≤ sizeLine; decide, fun t2 nt2 => ⟨_, _, rfl, dpB upd_same, gd4.shw, ?_⟩⟩
      refine ⟨rfl, _, rfl, iffF (ne_self _) ?_⟩
      have s7 := same_upd (p := t2) (o := .tup [.str "doc", .int (p : Int), .str ins, .str r]) nt2
      -- inverse(back) != edit
      refine ⟨.ref b, rfl, b, _, _, _, _, rfl, SqT.of (s7 _ _ upd_same), fun b2 nb2 => ?_⟩
      have s8 := same_upd (p := b2) (o := .tup [.str "doc", .int (p : Int), .str r, .str ins]) nb2
      refine ⟨.ref t, rfl, _, _, dpE upd_same, dpE (s8 _ _ (s7 _ _ ht6)), sh4 adoc ar ai, sh4 adoc ar ai, _, rfl, iffF ?_ ?_⟩
      · rw [SeqAt.eqv_refl _ (lay4 adoc ar ai)]
        rfl
      have sA := s6.trans (s7.trans s8)
      have ecs8 := sA _ _ ecs5
      have ech8 := sA _ _ ech5
      have ht8 := sA _ _ ht
      have eb8 : (upd (upd (upd H5 b (.tup [.str "doc", .int (p : Int), .str ins, .str r])) t2 (.tup [.str "doc", .int (p : Int), .str ins, .str r])) b2 (.tup [.str "doc", .int (p : Int), .str r, .str ins])) b = some (.tup [.str "doc", .int (p : Int), .str ins, .str r]) := s8 _ _ (s7 _ _ upd_same)
      generalize upd (upd (upd H5 b (.tup [.str "doc", .int (p : Int), .str ins, .str r])) t2 (.tup [.str "doc", .int (p : Int), .str ins, .str r])) b2 (.tup [.str "doc", .int (p : Int), .str r, .str ins]) = H8 at *
      have u8 : Upto a H H8 := (u4.trans u5).trans (.of sA)
      have h8 : Hand H8 a (n + 61 + 75 * (i + 1)) := (h5.same sA).mono (by omega)
      have hC8 : Chn H8 C R := hC5.keep fun t' _ xs e => sA _ _ e
      have tch : t ≠ ch := ne_of ht8 ech8 (by intro z; cases z)
      have tcs : t ≠ cs := ne_of ht8 ecs8 (by intro z; cases z)
      have bch : b ≠ ch := ne_of eb8 ech8 (by intro z; cases z)
      have bcs : b ≠ cs := ne_of eb8 ecs8 (by intro z; cases z)
      have R10 : R.length < 1000 := by omega
      -- chain.append(edit)
      refine ⟨.ref ch, rfl, .inl ⟨rfl, _, SqL.of ech8⟩, .ref t, rfl, ch, _, _, rfl, rfl, ech8, by rw [List.length_map]; exact small1000 (by omega), ?_⟩
      have ecs9 : (upd H8 ch (.lst (R.map V.ref ++ [.ref t]))) cs = some (.lst (C.map V.str)) := by rw [upd_ne chcs.symm]; exact ecs8
      have ht9 : (upd H8 ch (.lst (R.map V.ref ++ [.ref t]))) t = _ := (upd_ne tch).trans ht8
      -- contents.append(apply(contents[-1], edit))
      refine ⟨.ref cs, rfl, .inl ⟨rfl, _, SqL.of ecs9⟩, .ref cs, rfl, 1, rfl, cs, _, -1, _, rfl, rfl, SqL.of ecs9, al, .ref t, rfl, c, r, ins, t, _, p, rfl, SqT.of ht9, by omega, by omega, by omega, hf, cs, _, _, rfl, rfl, ecs9, by rw [List.length_map, hC.len]; exact small1000 (by omega), ?_⟩
      have emap : C.map V.str ++ [V.str (applyS c p r ins)] = (C ++ [applyS c p r ins]).map V.str := by rw [List.map_append]; rfl
      have emapR : R.map V.ref ++ [V.ref t] = (R ++ [t]).map V.ref := by rw [List.map_append]; rfl
      rw [emap, emapR]
      have al2 : atI ((C ++ [applyS c p r ins]).map V.str) (-1) = some (.str (applyS c p r ins)) := by
        refine at_last V.str (n := C.length) ?_ ?_
        · rw [List.length_append]
          rfl
        · rw [List.getElem?_append_right (Nat.le_refl _), Nat.sub_self]
          rfl
      have ecs10 : (upd (upd H8 ch (.lst ((R ++ [t]).map V.ref))) cs (.lst ((C ++ [applyS c p r ins]).map V.str))) cs = some (.lst ((C ++ [applyS c p r ins]).map V.str)) := upd_same
      have eb10 : (upd (upd H8 ch (.lst ((R ++ [t]).map V.ref))) cs (.lst ((C ++ [applyS c p r ins]).map V.str))) b = _ := (upd_ne bcs).trans ((upd_ne bch).trans eb8)
      have la := applyS_len ins hf
      have zl : (1000 : Nat) ≤ sizeLine := by decide
      -- fits(contents[-1], back) is not True
      refine ⟨.ref cs, rfl, 1, rfl, cs, _, -1, _, rfl, rfl, SqL.of ecs10, al2, .ref b, rfl, applyS c p r ins, ins, b, _, _, p, rfl, SqT.of eb10, by omega, by omega, _, _, rfl, rfl, _, rfl, iffF ?_ ?_⟩
      · rw [fit_back ins hf]
        rfl
      refine ⟨_, _, _, C ++ [applyS c p r ins], R ++ [t], rfl, ecs10, ?_, by rw [List.length_append, hR]; rfl, ?_, ?_, ?_⟩
      · rw [upd_ne chcs, upd_same]
      · refine Chn.more (hC8.keep fun t' _ xs e => ?_) hc ?_ hf hi4 ai
        · rw [upd_ne (ne_of e ecs8 (by intro z; cases z)), upd_ne (ne_of e ech8 (by intro z; cases z))]
          exact e
        · exact (upd_ne tcs).trans ((upd_ne tch).trans ht8)
      · exact (u8.put fch).put fcs
      · exact h8.at ((upd_ne csa.symm).trans (upd_ne cha.symm))
    · rintro σ H4 ⟨y3, y4, y5, C, R, rfl, ecs, ech, hR, hC, u4, h4⟩
      obtain ⟨c, hc⟩ : ∃ c, C[R.length]? = some c := ⟨C[R.length]'(by rw [hC.len]; omega), List.getElem?_eq_getElem _⟩
      have al : atI (C.map V.str) (-1) = some (.str c) := at_last V.str hC.len hc
      refine ⟨.ref cs, rfl, 1, rfl, cs, _, -1, _, rfl, rfl, SqL.of ecs, al, ?_⟩
      have hN : (R.length : Int) ≤ 11 := by omega
      refine ⟨.ref ch, rfl, ch, _, rfl, .inl (SqL.of ech), _, 1, rfl, rfl, 1, rfl, 1, rfl, _, -1, -1, _, rfl, RgC.neg (by rw [List.length_map]; omega) (by rw [List.length_map]; omega) (by decide) (by decide), ?_⟩
      rw [List.length_map, show ((R.length : Int) - 1 - -1).toNat = R.length by omega]
      refine for_rangeC (lo := (R.length : Int) - 1) (c := -1) (n := R.length) (fun k σ H5 => ∃ (x3 x4 x5 x7 : Option V) (h : Str), σ = [some (.ref a), some (.ref cs), some (.ref ch), x3, x4, x5, some (.str h), x7] ∧ C[R.length - k]? = some h ∧ Same H4 H5) ?_ ?_ ?_
      · exact ⟨y3, y4, y5, none, c, rfl, hc, Same.refl _⟩
      · rintro k σ H5 hk ⟨x3, x4, x5, x7, h, rfl, eh, s5⟩
        have ecs5 := s5 _ _ ecs
        have ech5 := s5 _ _ ech
        have ix : (R.length : Int) - 1 + (k : Nat) * -1 = ((R.length - 1 - k : Nat) : Int) := by omega
        rw [ix]
        obtain ⟨t, et⟩ : ∃ t, R[R.length - 1 - k]? = some t := ⟨R[R.length - 1 - k]'(by omega), List.getElem?_eq_getElem _⟩
        obtain ⟨c0, p, r, ins, e1, e2, e3, e4, e5⟩ := hC.step _ _ et
        have eh' : h = applyS c0 p r ins := by
          rw [show R.length - k = R.length - 1 - k + 1 by omega] at eh
          exact Option.some.inj (eh.symm.trans e5)
        subst eh'
        obtain ⟨f1, f2⟩ := hC.fine _ _ e1
        obtain ⟨_, _, rl⟩ := fit_le e3
        have la := applyS_len ins e3
        have rR : atI (R.map V.ref) ((R.length - 1 - k : Nat) : Int) = some (.ref t) := atI_nat (by rw [List.getElem?_map, et]; rfl)
        have rC : atI (C.map V.str) ((R.length - 1 - k : Nat) : Int) = some (.str c0) := atI_nat (by rw [List.getElem?_map, e1]; rfl)
        refine ⟨_, rfl, .ref ch, rfl, _, rfl, ch, _, _, _, rfl, rfl, SqL.of ech5, rR, t, _, _, _, _, rfl, SqT.of (s5 _ _ e2), fun b nb => ?_⟩
        have s6 := same_upd (H := H5) (p := b) (o := .tup [.str "doc", .int (p : Int), .str ins, .str r]) nb
        refine ⟨applyS c0 p r ins, ins, r, b, _, p, rfl, SqT.of upd_same, by omega, by omega, by omega, fit_back ins e3, ?_⟩
        rw [apply_back ins e3]
        refine ⟨_, rfl, .ref cs, rfl, _, rfl, cs, _, _, _, rfl, rfl, SqL.of (s6 _ _ ecs5), rC, rfl, _, rfl, iffF (ne_self _) ?_⟩
        exact ⟨_, _, _, _, c0, rfl, by rw [show R.length - (k + 1) = R.length - 1 - k by omega]; exact e1, s5.trans s6⟩
      · rintro σ H5 ⟨x3, x4, x5, x7, h, rfl, eh, s5⟩
        exact q H5 (u4.trans (.of s5)) ((h4.same s5).mono (by omega))
end
end Cu

namespace Cu
open PySem PySem.Spec PyProof.Rows L2
section
variable {P : Program} {w : World} {K : PySem.W.Frag} {mg : Str → Option Value} {base : Heap}
def spLaw (K : PySem.W.Frag) : Sp := fun vs H Q _ => ∃ (a : Addr) (ns : List Int), vs = [.ref a] ∧ SqL K H a (ns.map V.int) ∧ ns.length ≤ 63 ∧ ∀ H', Q (.bl true) H'
theorem ok_law {f fH fC : Addr} {fd fdH fdC : FuncData} (F : Fun K "law" "law" sLaw f fd) (DH : Df K mg "_law_hand" sHand ["_law_script", "_law_k"] fH fdH) (DC : Df K mg "_law_chain_right" sChain ["_law_hand_here"] fC fdC)
    (GC : FnG P w K mg base CX0 5 fC fdC ["_law_hand_here"] spChain) (T : Bl mg) : FnG P w K mg base CX0 6 f fd ["_law_script"] (spLaw K) := by
  have GH : FnOk P w K mg base CX0 1 fH fdH _ (spHand K) := ok_hand DH.F T
  refine okG F scL (fun vs H Q E h => ?_) (fun cdv A outer s H vs Q E gd hr h => ?_)
  · obtain ⟨a, ns, rfl, _⟩ := h
    rfl
  · obtain ⟨a, ns, rfl, hS, hl, q⟩ := h
    refine ⟨_, (pss_cons (ps_for PassesOwn.never rfl (pi_range1 (by rfl) T.range (pa_cons (pe_callB (call_max2 rfl) (by rfl) T.max (by decide +kernel) (pa_cons pe_int (pa_cons (pe_callB (call_min2 rfl) (by rfl) T.min (by decide +kernel) (pa_cons pe_int (pa_cons (pe_callB call_len_seq (by rfl) T.len PySem.boot_len (pa_cons (pv 0) pa_nil)) pa_nil))) pa_nil))) pa_nil)) (pg_name (i := 1) scL.nd rfl (.inl rfl))
  (pss_cons (ps_set (i := 2) scL.nd rfl (.inr rfl) (pe_call GH (hr.mono (by decide)) (by rfl) DH.g DH.F.kp DH.b .nil pass0 (pa_cons (pv 0) (pa_cons (pv 1) pa_nil))))
  (pss_one (ps_if (pt_not (pt_val (pe_callB (cr_all rfl) (by rfl) T.all (by decide +kernel) (pa_cons (pe_lc (own := [("_law_turn", 3)]) (g := gName 3) (tt := tYes) rfl scL.nd (pi_range1 (by rfl) T.range (pa_cons pe_int pa_nil)) (blkOk_by (own := [("_law_turn", 3)]) (N := ["_law_script", "_law_k", "_law_hand_here", "_law_turn"]) (sc := defScope sLaw) (by decide +kernel)) (fun _ _ _ _ _ => (pg_name (i := 3) scL.nd rfl (.inl rfl))) (fun _ _ _ _ _ => pts_nil) (fun _ _ _ _ _ => (pe_callG GC gd (hr.mono (by decide)) (by rfl) DC.g DC.F.kp DC.b .nil pass0 (pa_cons (pv 2) pa_nil)))) pa_nil))))
  (pss_one (ps_ret pe_bl))
  pss_nil))))
  (pss_one (ps_ret pe_bl))), ?_⟩
    refine ⟨.ref a, rfl, a, _, rfl, .inl hS, 3, _, rfl, 1, _, rfl, ?_⟩
    rw [List.length_map]
    have hN : (if (if (ns.length : Int) < 3 then (ns.length : Int) else 3) > 1 then (if (ns.length : Int) < 3 then (ns.length : Int) else 3) else 1) ≤ 3 ∧ 0 ≤ (if (if (ns.length : Int) < 3 then (ns.length : Int) else 3) > 1 then (if (ns.length : Int) < 3 then (ns.length : Int) else 3) else 1) := by
      constructor <;> (split <;> (try split) <;> omega)
    generalize (if (if (ns.length : Int) < 3 then (ns.length : Int) else 3) > 1 then (if (ns.length : Int) < 3 then (ns.length : Int) else 3) else 1) = N at hN
    refine ⟨N, rfl, by omega, by omega, ?_⟩
    refine for_range (lo := 0) (n := N.toNat) (fun i σ H1 => ∃ y1 y2 y3 : Option V, σ = [some (.ref a), y1, y2, y3] ∧ Same H H1) ⟨none, none, none, rfl, Same.refl _⟩ ?_ ?_
    · rintro i σ H1 hi ⟨y1, y2, y3, rfl, s1⟩
      refine ⟨.ref a, rfl, .int (0 + (i : Nat)), rfl, a, _, ns, rfl, s1.seq hS, by omega, by omega, fun H2 p s2 np h2 => ?_⟩
      refine ⟨6, rfl, by decide, by decide, fun D nD => ?_⟩
      have fp : H p = none := s1.free np
      have Dp : D ≠ p := Hand.ne h2.some nD
      have fD : H D = none := s1.free (s2.free nD)
      refine lc_range (lo := 0) (n := 6) (fun j H3 => H3 D = some (.lst ((List.replicate j true).map V.bl)) ∧ Same H H3 ∧ Hand H3 p (1500 * j)) ?_ ?_ ?_
      · exact ⟨upd_same, same_put (s1.trans s2) fD, h2.new nD⟩
      · rintro j H3 hj ⟨eD, s3, h3⟩
        refine ⟨rfl, lc_yes ?_⟩
        refine ⟨.ref p, rfl, p, 1500 * j, rfl, h3, by omega, fun H4 u4 h4 => ?_⟩
        refine ⟨_, u4 D _ Dp eD, ?_, ?_, ?_, ?_⟩
        · rw [List.length_map, List.length_replicate]
          exact small1000 (by omega)
        · rw [upd_same, List.replicate_succ', List.map_append]
          rfl
        · exact same_put (same_upto s3 u4 fp) fD
        · exact (h4.at (upd_ne Dp.symm)).mono (by omega)
      · rintro H3 ⟨eD, s3, h3⟩
        refine ⟨D, List.replicate 6 true, rfl, SqL.of eD, _, rfl, iffF rfl ?_⟩
        exact ⟨_, _, _, rfl, s3⟩
    · rintro σ H1 ⟨y1, y2, y3, rfl, s1⟩
      exact q _
end
end Cu

namespace Cu
open PySem PySem.Spec PyProof.Rows L2
theorem all_mk {w : World} {K : PySem.W.Frag} {h : Heap} {mg : Str → Option Value} {fa fF fA fI fH fT fO fP fG fC fL : Addr} (X : K.In h) (G : h.Ns mainGlobals mg) (hfa : mg "law" = some (.ref fa))
    {odF anF odA anA odI anI odH anH odT anT odO anO odP anP odG anG odC anC odL anL : Option Addr} {slF slA slI slH slT slO slP slG slC slL : Array (Option Value)} {ocF kVF dcF pmF cdF ctF ocA kVA dcA pmA cdA ctA ocI kVI dcI pmI cdI ctI ocH kVH dcH pmH cdH ctH ocT kVT dcT pmT cdT ctT ocO kVO dcO pmO cdO ctO ocP kVP dcP pmP cdP ctP ocG kVG dcG pmG cdG ctG ocC kVC dcC pmC cdC ctC ocL kVL dcL pmL cdL ctL : Value}
    (aF : PySem.W.nsIn K mainGlobals "fits" = some (some (.ref fF))) (lF : K.lookup fF = some ⟨ocF, odF, .func (PySem.W.fnOf "fits" "fits" (defArgs sFits) (defBody sFits) (defScope sFits) .none kVF dcF pmF anF cdF ctF), slF⟩)
    (cF : PySem.W.codeIn K cdF "fits" = true) (kF : PySem.W.keepIn K (.ref fF) = true)
    (aA : PySem.W.nsIn K mainGlobals "apply" = some (some (.ref fA))) (lA : K.lookup fA = some ⟨ocA, odA, .func (PySem.W.fnOf "apply" "apply" (defArgs sApply) (defBody sApply) (defScope sApply) .none kVA dcA pmA anA cdA ctA), slA⟩)
    (cA : PySem.W.codeIn K cdA "apply" = true) (kA : PySem.W.keepIn K (.ref fA) = true)
    (aI : PySem.W.nsIn K mainGlobals "inverse" = some (some (.ref fI))) (lI : K.lookup fI = some ⟨ocI, odI, .func (PySem.W.fnOf "inverse" "inverse" (defArgs sInverse) (defBody sInverse) (defScope sInverse) .none kVI dcI pmI anI cdI ctI), slI⟩)
    (cI : PySem.W.codeIn K cdI "inverse" = true) (kI : PySem.W.keepIn K (.ref fI) = true)
    (aH : PySem.W.nsIn K mainGlobals "_law_hand" = some (some (.ref fH))) (lH : K.lookup fH = some ⟨ocH, odH, .func (PySem.W.fnOf "_law_hand" "_law_hand" (defArgs sHand) (defBody sHand) (defScope sHand) .none kVH dcH pmH anH cdH ctH), slH⟩)
    (cH : PySem.W.codeIn K cdH "_law_hand" = true) (kH : PySem.W.keepIn K (.ref fH) = true)
    (aT : PySem.W.nsIn K mainGlobals "_law_take" = some (some (.ref fT))) (lT : K.lookup fT = some ⟨ocT, odT, .func (PySem.W.fnOf "_law_take" "_law_take" (defArgs sTake) (defBody sTake) (defScope sTake) .none kVT dcT pmT anT cdT ctT), slT⟩)
    (cT : PySem.W.codeIn K cdT "_law_take" = true) (kT : PySem.W.keepIn K (.ref fT) = true)
    (aO : PySem.W.nsIn K mainGlobals "_law_of" = some (some (.ref fO))) (lO : K.lookup fO = some ⟨ocO, odO, .func (PySem.W.fnOf "_law_of" "_law_of" (defArgs sOf) (defBody sOf) (defScope sOf) .none kVO dcO pmO anO cdO ctO), slO⟩)
    (cO : PySem.W.codeIn K cdO "_law_of" = true) (kO : PySem.W.keepIn K (.ref fO) = true)
    (aP : PySem.W.nsIn K mainGlobals "_law_piece" = some (some (.ref fP))) (lP : K.lookup fP = some ⟨ocP, odP, .func (PySem.W.fnOf "_law_piece" "_law_piece" (defArgs sPiece) (defBody sPiece) (defScope sPiece) .none kVP dcP pmP anP cdP ctP), slP⟩)
    (cP : PySem.W.codeIn K cdP "_law_piece" = true) (kP : PySem.W.keepIn K (.ref fP) = true)
    (aG : PySem.W.nsIn K mainGlobals "_law_fitting" = some (some (.ref fG))) (lG : K.lookup fG = some ⟨ocG, odG, .func (PySem.W.fnOf "_law_fitting" "_law_fitting" (defArgs sFitting) (defBody sFitting) (defScope sFitting) .none kVG dcG pmG anG cdG ctG), slG⟩)
    (cG : PySem.W.codeIn K cdG "_law_fitting" = true) (kG : PySem.W.keepIn K (.ref fG) = true)
    (aC : PySem.W.nsIn K mainGlobals "_law_chain_right" = some (some (.ref fC))) (lC : K.lookup fC = some ⟨ocC, odC, .func (PySem.W.fnOf "_law_chain_right" "_law_chain_right" (defArgs sChain) (defBody sChain) (defScope sChain) .none kVC dcC pmC anC cdC ctC), slC⟩)
    (cC : PySem.W.codeIn K cdC "_law_chain_right" = true) (kC : PySem.W.keepIn K (.ref fC) = true)
    (aL : PySem.W.nsIn K mainGlobals "law" = some (some (.ref fL))) (lL : K.lookup fL = some ⟨ocL, odL, .func (PySem.W.fnOf "law" "law" (defArgs sLaw) (defBody sLaw) (defScope sLaw) .none kVL dcL pmL anL cdL ctL), slL⟩)
    (cL : PySem.W.codeIn K cdL "law" = true) (kL : PySem.W.keepIn K (.ref fL) = true)
    (z_len : PySem.W.nsIn K mainGlobals "len" = some none)
    (z_abs : PySem.W.nsIn K mainGlobals "abs" = some none)
    (z_int : PySem.W.nsIn K mainGlobals "int" = some none)
    (z_range : PySem.W.nsIn K mainGlobals "range" = some none)
    (z_repr : PySem.W.nsIn K mainGlobals "repr" = some none)
    (z_max : PySem.W.nsIn K mainGlobals "max" = some none)
    (z_min : PySem.W.nsIn K mainGlobals "min" = some none)
    (z_all : PySem.W.nsIn K mainGlobals "all" = some none) : LawG PySem.Challenge.rw_crossundo_k05_inverse_edits w K 6 63 "_law_script" mg fa h := by
  have e := hfa.symm.trans (PySem.W.mg_of X G aL)
  cases e
  have T : Bl mg := { len := PySem.W.mg_none_of X G z_len, abs := PySem.W.mg_none_of X G z_abs, int := PySem.W.mg_none_of X G z_int, range := PySem.W.mg_none_of X G z_range, repr := PySem.W.mg_none_of X G z_repr, max := PySem.W.mg_none_of X G z_max, min := PySem.W.mg_none_of X G z_min, all := PySem.W.mg_none_of X G z_all }
  have FF := fun_mk (st := sFits) lF cF kF
  have DF : Df K mg "fits" sFits ["content", "edit"] fF _ := ⟨FF, PySem.W.mg_of X G aF, FF.binds (ps := ["content", "edit"]) fun _ _ _ _ _ _ us hl => match us, hl with | [_, _], _ => rfl⟩
  have FA := fun_mk (st := sApply) lA cA kA
  have DA : Df K mg "apply" sApply ["content", "edit"] fA _ := ⟨FA, PySem.W.mg_of X G aA, FA.binds (ps := ["content", "edit"]) fun _ _ _ _ _ _ us hl => match us, hl with | [_, _], _ => rfl⟩
  have FI := fun_mk (st := sInverse) lI cI kI
  have DI : Df K mg "inverse" sInverse ["edit"] fI _ := ⟨FI, PySem.W.mg_of X G aI, FI.binds (ps := ["edit"]) fun _ _ _ _ _ _ us hl => match us, hl with | [_], _ => rfl⟩
  have FH := fun_mk (st := sHand) lH cH kH
  have DH : Df K mg "_law_hand" sHand ["_law_script", "_law_k"] fH _ := ⟨FH, PySem.W.mg_of X G aH, FH.binds (ps := ["_law_script", "_law_k"]) fun _ _ _ _ _ _ us hl => match us, hl with | [_, _], _ => rfl⟩
  have FT := fun_mk (st := sTake) lT cT kT
  have DT : Df K mg "_law_take" sTake ["_law_hand_here", "_law_many"] fT _ := ⟨FT, PySem.W.mg_of X G aT, FT.binds (ps := ["_law_hand_here", "_law_many"]) fun _ _ _ _ _ _ us hl => match us, hl with | [_, _], _ => rfl⟩
  have FO := fun_mk (st := sOf) lO cO kO
  have DO : Df K mg "_law_of" sOf ["_law_hand_here", "_law_some"] fO _ := ⟨FO, PySem.W.mg_of X G aO, FO.binds (ps := ["_law_hand_here", "_law_some"]) fun _ _ _ _ _ _ us hl => match us, hl with | [_, _], _ => rfl⟩
  have FP := fun_mk (st := sPiece) lP cP kP
  have DP : Df K mg "_law_piece" sPiece ["_law_hand_here", "_law_most"] fP _ := ⟨FP, PySem.W.mg_of X G aP, FP.binds (ps := ["_law_hand_here", "_law_most"]) fun _ _ _ _ _ _ us hl => match us, hl with | [_, _], _ => rfl⟩
  have FG := fun_mk (st := sFitting) lG cG kG
  have DG : Df K mg "_law_fitting" sFitting ["_law_hand_here", "_law_content"] fG _ := ⟨FG, PySem.W.mg_of X G aG, FG.binds (ps := ["_law_hand_here", "_law_content"]) fun _ _ _ _ _ _ us hl => match us, hl with | [_, _], _ => rfl⟩
  have FC := fun_mk (st := sChain) lC cC kC
  have DC : Df K mg "_law_chain_right" sChain ["_law_hand_here"] fC _ := ⟨FC, PySem.W.mg_of X G aC, FC.binds (ps := ["_law_hand_here"]) fun _ _ _ _ _ _ us hl => match us, hl with | [_], _ => rfl⟩
  have FL := fun_mk (st := sLaw) lL cL kL
  refine ⟨PySem.W.fnOf "law" "law" (defArgs sLaw) (defBody sLaw) (defScope sLaw) .none kVL dcL pmL anL cdL ctL, [], spLaw K, (fun _ m => (nomatch m)), (fun _ m => (nomatch m)), (fun _ m => (nomatch m)), fun s v => .of_eq rfl, fun H a ns hl _ hS => ⟨a, ns, rfl, hS, hl, fun _ => rfl⟩, fun base _ _ _ => ?_⟩
  have GP : FnOk PySem.Challenge.rw_crossundo_k05_inverse_edits.prog w K mg base CX0 3 _ _ _ spPiece := ok_piece FP DT DO T
  have GG : FnOk PySem.Challenge.rw_crossundo_k05_inverse_edits.prog w K mg base CX0 4 _ _ _ spFitting := ok_fitting FG DT DP GP T
  exact ok_law FL DH DC (ok_chain FC DT DP DF DA DI DG GP GG T) T
end Cu
open PySem PySem.W PyProof.Rows
set_option maxRecDepth 100000 in
set_option maxHeartbeats 0 in
theorem PySem.Challenge.cw_crossundo_k05_inverse_edits_holds : PySem.Challenge.rw_crossundo_k05_inverse_edits.Holds := by
  w_on; o_law; k_head; (case hw => w_witness2)
  k_fill
  refine Cu.walkG (l := PySem.Challenge.rw_crossundo_k05_inverse_edits) (n := 63) (k := 6) (x := "_law_script") rfl (by decide) rfl ⟨rfl, by decide, by decide⟩ (fun w h Y => PySem.W.kIn_of Y) ?F
  case F =>
    intro w mg fa h Y KX G hmg
    refine' Cu.all_mk KX G hmg ?aF ?lF ?cF ?kF ?aA ?lA ?cA ?kA ?aI ?lI ?cI ?kI ?aH ?lH ?cH ?kH ?aT ?lT ?cT ?kT ?aO ?lO ?cO ?kO ?aP ?lP ?cP ?kP ?aG ?lG ?cG ?kG ?aC ?lC ?cC ?kC ?aL ?lL ?cL ?kL ?z_len ?z_abs ?z_int ?z_range ?z_repr ?z_max ?z_min ?z_all
    (case aF => k_is)
    (case lF => k_is)
    (case cF => k_is)
    (case kF => k_is)
    (case aA => k_is)
    (case lA => k_is)
    (case cA => k_is)
    (case kA => k_is)
    (case aI => k_is)
    (case lI => k_is)
    (case cI => k_is)
    (case kI => k_is)
    (case aH => k_is)
    (case lH => k_is)
    (case cH => k_is)
    (case kH => k_is)
    (case aT => k_is)
    (case lT => k_is)
    (case cT => k_is)
    (case kT => k_is)
    (case aO => k_is)
    (case lO => k_is)
    (case cO => k_is)
    (case kO => k_is)
    (case aP => k_is)
    (case lP => k_is)
    (case cP => k_is)
    (case kP => k_is)
    (case aG => k_is)
    (case lG => k_is)
    (case cG => k_is)
    (case kG => k_is)
    (case aC => k_is)
    (case lC => k_is)
    (case cC => k_is)
    (case kC => k_is)
    (case aL => k_is)
    (case lL => k_is)
    (case cL => k_is)
    (case kL => k_is)
    (case z_len => k_is)
    (case z_abs => k_is)
    (case z_int => k_is)
    (case z_range => k_is)
    (case z_repr => k_is)
    (case z_max => k_is)
    (case z_min => k_is)
    (case z_all => k_is)
